import Derived.Test.YtbgngikejgihgahGreatDoorMq09
import Derived.Test.YtbgngikejgihgahGreatDoorProg
import Derived.Test.YtbgngikejgihgahGreatDoorMq01
import Derived.WalkKit
import Derived.WalkLawsBesides
import Derived.Deep.QuietTactic
import Derived.BigQuiet
namespace Go.Proofs.YtbgngikejgihgahGreatDoor
open Go Go.RowKit
set_option linter.unusedVariables false

set_option maxHeartbeats 1000000 in
theorem toPieceL (p : Pc) (w : World) : Calls Tryz.prog 240 #[pcV p] w fun e w' => e = .returned (pcV p) ∧ Below w.heap.size w w' := by
  unfold pcV
  go_enter Tryz.func240, Tryz.ntmps240
  go_wp2
  refine bodyPost_ret (v := cnt _ _ _) (by simp [results, Tryz.results240, go_sem]; rfl) rfl ⟨rfl, ?_⟩
  exact (((Below.refl _ _).alloc (Nat.le_refl _) _).alloc (by simp) _).alloc (by simp; omega) _

set_option maxHeartbeats 1000000 in
set_option maxRecDepth 100000 in
theorem toItemL (x : It) (w : World) : Calls Tryz.prog 192 #[itA x] w fun e w' => e = .returned (itA x) ∧ Below w.heap.size w w' := by
  obtain ⟨⟨po, pl, pb⟩, lv⟩ := x
  have HB0 := hide ((((Below.refl w.heap.size w).alloc (Nat.le_refl _) (.cells #[.int .i64 po, .int .i64 pl, .int .i64 pb, .int .i64 lv] 271)).alloc (by simp) (.cells #[.int .i64 0, .int .i64 0, .int .i64 0, .int .i64 0] 132)).alloc (by simp; omega) (.cells #[.int .i64 0, .int .i64 0, .int .i64 0, .int .i64 0] 132))
  have hk0 : (((w.alloc (.cells #[.int .i64 po, .int .i64 pl, .int .i64 pb, .int .i64 lv] 271)).alloc (.cells #[.int .i64 0, .int .i64 0, .int .i64 0, .int .i64 0] 132)).alloc (.cells #[.int .i64 0, .int .i64 0, .int .i64 0, .int .i64 0] 132)).heap[w.heap.size]? = some (.cells #[.int .i64 po, .int .i64 pl, .int .i64 pb, .int .i64 lv] 271 (0, 0)) := by
    rw [Below.heap_alloc _ _ _ (by simp; omega), Below.heap_alloc _ _ _ (by simp)]; exact heap_alloc_new _ _
  have hk1 : (((w.alloc (.cells #[.int .i64 po, .int .i64 pl, .int .i64 pb, .int .i64 lv] 271)).alloc (.cells #[.int .i64 0, .int .i64 0, .int .i64 0, .int .i64 0] 132)).alloc (.cells #[.int .i64 0, .int .i64 0, .int .i64 0, .int .i64 0] 132)).heap[w.heap.size + 1]? = some (.cells #[.int .i64 0, .int .i64 0, .int .i64 0, .int .i64 0] 132 (0, 0)) := by
    rw [Below.heap_alloc _ _ _ (by simp)]
    have := heap_alloc_new (w.alloc (.cells #[.int .i64 po, .int .i64 pl, .int .i64 pb, .int .i64 lv] 271)) (.cells #[.int .i64 0, .int .i64 0, .int .i64 0, .int .i64 0] 132)
    simpa using this
  have hk2 : (((w.alloc (.cells #[.int .i64 po, .int .i64 pl, .int .i64 pb, .int .i64 lv] 271)).alloc (.cells #[.int .i64 0, .int .i64 0, .int .i64 0, .int .i64 0] 132)).alloc (.cells #[.int .i64 0, .int .i64 0, .int .i64 0, .int .i64 0] 132)).heap[w.heap.size + 1 + 1]? = some (.cells #[.int .i64 0, .int .i64 0, .int .i64 0, .int .i64 0] 132 (0, 0)) := by
    have := heap_alloc_new ((w.alloc (.cells #[.int .i64 po, .int .i64 pl, .int .i64 pb, .int .i64 lv] 271)).alloc (.cells #[.int .i64 0, .int .i64 0, .int .i64 0, .int .i64 0] 132)) (.cells #[.int .i64 0, .int .i64 0, .int .i64 0, .int .i64 0] 132)
    simpa using this
  have hs0 : (((w.alloc (.cells #[.int .i64 po, .int .i64 pl, .int .i64 pb, .int .i64 lv] 271)).alloc (.cells #[.int .i64 0, .int .i64 0, .int .i64 0, .int .i64 0] 132)).alloc (.cells #[.int .i64 0, .int .i64 0, .int .i64 0, .int .i64 0] 132)).heap.size = w.heap.size + 3 := by simp
  have HH := hide (And.intro hk0 (And.intro hk1 hk2))
  unfold itA
  simp only
  clear hk0 hk1 hk2
  go_enter Tryz.func192, Tryz.ntmps192
  go_wp2_with fail
  generalize ((w.alloc (.cells #[.int .i64 po, .int .i64 pl, .int .i64 pb, .int .i64 lv] 271)).alloc (.cells #[.int .i64 0, .int .i64 0, .int .i64 0, .int .i64 0] 132)).alloc (.cells #[.int .i64 0, .int .i64 0, .int .i64 0, .int .i64 0] 132) = w0 at *
  refine (toPieceL ⟨po, pl, pb⟩ w0).mono ?_
  rintro e w1 ⟨rfl, hb1⟩
  have HB1 := hide (HB0.out.trans (hb1.mono (by omega)))
  have g0 := (hb1.block w.heap.size (by omega)).trans HH.out.1
  have g1 := (hb1.block (w.heap.size + 1) (by omega)).trans HH.out.2.1
  have g2 := (hb1.block (w.heap.size + 1 + 1) (by omega)).trans HH.out.2.2
  have hs1 := hb1.size
  have c3 : w1.cell? ⟨w.heap.size, 3, none⟩ = some (.int .i64 lv) := by rw [cell_of_row w1 _ 3 _ _ _ g0]; rfl
  have l0 : w1.cell? ⟨w.heap.size + 1, 0, none⟩ = some (.int .i64 0) := by rw [cell_of_row w1 _ 0 _ _ _ g1]; rfl
  have l1 : w1.cell? ⟨w.heap.size + 1, 1, none⟩ = some (.int .i64 0) := by rw [cell_of_row w1 _ 1 _ _ _ g1]; rfl
  have l2 : w1.cell? ⟨w.heap.size + 1, 2, none⟩ = some (.int .i64 0) := by rw [cell_of_row w1 _ 2 _ _ _ g1]; rfl
  have l3 : w1.cell? ⟨w.heap.size + 1, 3, none⟩ = some (.int .i64 0) := by rw [cell_of_row w1 _ 3 _ _ _ g1]; rfl
  have m0 : w1.cell? ⟨w.heap.size + 1 + 1, 0, none⟩ = some (.int .i64 0) := by rw [cell_of_row w1 _ 0 _ _ _ g2]; rfl
  have m1 : w1.cell? ⟨w.heap.size + 1 + 1, 1, none⟩ = some (.int .i64 0) := by rw [cell_of_row w1 _ 1 _ _ _ g2]; rfl
  have m2 : w1.cell? ⟨w.heap.size + 1 + 1, 2, none⟩ = some (.int .i64 0) := by rw [cell_of_row w1 _ 2 _ _ _ g2]; rfl
  have m3 : w1.cell? ⟨w.heap.size + 1 + 1, 3, none⟩ = some (.int .i64 0) := by rw [cell_of_row w1 _ 3 _ _ _ g2]; rfl
  have fl := fun j => frozen_of_row w1 (w.heap.size + 1) j _ _ g1
  have fm := fun j => frozen_of_row w1 (w.heap.size + 1 + 1) j _ _ g2
  have fl0 := fl 0
  have fl1 := fl 1
  have fl2 := fl 2
  have fl3 := fl 3
  have fm0 := fm 0
  have fm1 := fm 1
  have fm2 := fm 2
  have fm3 := fm 3
  clear hb1 HH g0 g1 g2 HB0 fl fm
  unfold pcV
  simp only
  go_wp2
  refine bodyPost_ret (v := itA ⟨⟨po, pl, pb⟩, lv⟩) (by simp [results, Tryz.results192, go_sem, l0, l1, l2, l3]; rfl) rfl ⟨rfl, ?_⟩
  exact (((((((HB1.out.setCell (by simp; omega) _).setCell (by simp; omega) _).setCell (by simp; omega) _).setCell (by simp; omega) _).setCell (by simp) _).setCell (by simp) _).setCell (by simp) _).setCell (by simp) _

set_option maxHeartbeats 2000000 in
set_option maxRecDepth 100000 in
theorem toItemsL (B : Nat) (xs : List It) (v : Value) (w : World) (h : RdI B w v xs) (hB : B ≤ w.heap.size) (hn : xs.length ≤ 1048576) :
    Calls Tryz.prog 128 #[v] w fun e w' => e = .returned (.slice (some ⟨w.heap.size, 0, none⟩) xs.length xs.length) ∧
      OwI w' w.heap.size (.slice (some ⟨w.heap.size, 0, none⟩) xs.length xs.length) xs ∧ Below w.heap.size w w' := by
  obtain ⟨i0, hi, hz0, hz1, hz2⟩ := info_parts Tryz.infoIT
  rcases h with ⟨ao, cap, rfl, rfl⟩ | ⟨b, off, cap, rfl, hp, hb, hc⟩
  · go_enter Tryz.func128, Tryz.ntmps128
    go_wp2_with (at_make; refine wpList_make_full _ rfl _ _ 29 rfl w.heap.size 132 i0 (.agg #[.int .i64 0, .int .i64 0, .int .i64 0, .int .i64 0]) 4 Tryz.underlying29 hi hz0 hz1 .i64 .i64 _ _ 0 rfl rfl (by omega) (by omega) (by rw [hz2]; omega) (by unfold maxLen; omega) (Nat.le_refl _) ?_; intro w1 hown hgrow)
    rw [made_its] at hown
    refine wp_loop_rounds 1 ?_
    rw [rounds_succ]
    go_wp2
    go_ret
    exact ⟨rfl, hown, (Below.refl _ _).grown hgrow (Nat.le_refl _) (fun k hk => by cases hk)⟩
  · have hcB : b < w.heap.size := by omega
    go_enter Tryz.func128, Tryz.ntmps128
    go_wp2_with (at_make; refine wpList_make_full _ rfl _ _ 29 rfl w.heap.size 132 i0 (.agg #[.int .i64 0, .int .i64 0, .int .i64 0, .int .i64 0]) 4 Tryz.underlying29 hi hz0 hz1 .i64 .i64 _ _ xs.length rfl rfl (by omega) (by omega) (by rw [hz2]; omega) (by unfold maxLen; omega) (Nat.le_refl _) ?_; intro w1 hown hgrow)
    rw [made_its] at hown
    have hb1 : Below w.heap.size w w1 := (Below.refl _ _).grown hgrow (Nat.le_refl _) (fun k hk => by cases hk)
    have HO := hide hown
    have HC := hide hc
    unfold maxLen at hp
    clear hown hgrow hc
    go_loopw [4] (fun i wr => ∃ k : Nat, k ≤ xs.length ∧ i = .int .i64 k ∧ wr.ownsRow w.heap.size 132 4 (.slice (some ⟨w.heap.size, 0, none⟩) xs.length xs.length) xs.length (itVs (xs.take k ++ List.replicate (xs.length - k) zIt)) ∧ Below w.heap.size w wr)
      (fun i _ => xs.length - (intOf i).toNat)
    case atStart => exact ⟨0, Nat.zero_le _, rfl, by simpa using HO.out, hb1⟩
    case round =>
      obtain ⟨k, hk, rfl, hown, hb⟩ := hrel
      by_cases hlt : k < xs.length
      · obtain ⟨x, hx, a0, a1, a2, a3⟩ := itAt_of' HC.out hlt
        have e0 := (hb.cell (p := ⟨b, off + k * 4, none⟩) hcB).trans a0
        have e1 := (hb.cell (p := ⟨b, off + k * 4 + 1, none⟩) hcB).trans a1
        have e2 := (hb.cell (p := ⟨b, off + k * 4 + 2, none⟩) hcB).trans a2
        have e3 := (hb.cell (p := ⟨b, off + k * 4 + 3, none⟩) hcB).trans a3
        have hlt' : (k : Int) < xs.length := by omega
        have hsz := hb.size
        have hbr : b < wr.heap.size := by omega
        have HB := hide hb
        have HOW := hide hown
        have HXK := hide hx
        have hgl : w.heap.size < wr.heap.size := (hown.lt w.heap.size rfl).2
        clear a0 a1 a2 a3 hb hown hx
        go_wp2_with fail
        refine (toItemL x wr).mono ?_
        rintro e w2 ⟨rfl, hb2⟩
        have hown2 := owns_below HOW.out hb2 (Nat.le_refl _)
        have HB2 := hide (HB.out.trans (hb2.mono hsz))
        have hs2 := hb2.size
        have eS := set_its xs k x HXK.out
        have k0 := own_cell4 hown2 (k * 4) (by omega)
        have k1 := own_cell4 hown2 (k * 4 + 1) (by omega)
        have k2 := own_cell4 hown2 (k * 4 + 2) (by omega)
        have k3 := own_cell4 hown2 (k * 4 + 3) (by omega)
        obtain ⟨v0, k0⟩ := k0
        obtain ⟨v1, k1⟩ := k1
        obtain ⟨v2, k2⟩ := k2
        obtain ⟨v3, k3⟩ := k3
        have f0 : w2.frozen? ⟨w.heap.size, k * 4, none⟩ = false := hown2.frozenAt _
        have f1 : w2.frozen? ⟨w.heap.size, k * 4 + 1, none⟩ = false := hown2.frozenAt _
        have f2 : w2.frozen? ⟨w.heap.size, k * 4 + 2, none⟩ = false := hown2.frozenAt _
        have f3 : w2.frozen? ⟨w.heap.size, k * 4 + 3, none⟩ = false := hown2.frozenAt _
        have s1 := (hown2.stored (k * 4) (.int .i64 x.pc.off)).1
        have s2 := (s1.stored (k * 4 + 1) (.int .i64 x.pc.len)).1
        have s3 := (s2.stored (k * 4 + 2) (.int .i64 x.pc.brk)).1
        have s4 := (s3.stored (k * 4 + 3) (.int .i64 x.lv)).1
        rw [eS] at s4
        have HS := hide s4
        clear hb2 hown2 s1 s2 s3 s4 eS e0 e1 e2 e3
        unfold itA
        go_wp2
        go_roundw
        case rel => exact ⟨k + 1, by omega, by go_num, HS.out, (((HB2.out.setCell (by simp) _).setCell (by simp) _).setCell (by simp) _).setCell (by simp) _⟩
        case measure => simp [intOf]; omega
      · obtain rfl : k = xs.length := by omega
        rw [List.take_length, Nat.sub_self, List.replicate_zero, List.append_nil] at hown
        have HO2 := hide hown
        have HB := hide hb
        clear hb hown
        go_wp2
        go_ret
        exact ⟨rfl, HO2.out, HB.out⟩

set_option maxHeartbeats 1000000 in
set_option maxRecDepth 100000 in
theorem toTreeL (B : Nat) (xs : List It) (v : Value) (w : World) (h : RdI B w v xs) (hB : B ≤ w.heap.size) (hn : xs.length ≤ 1048576) :
    Calls Tryz.prog 60 #[.agg #[v]] w fun e w' => ∃ g, w.heap.size ≤ g ∧ e = .returned (.agg #[.slice (some ⟨g, 0, none⟩) xs.length xs.length]) ∧
      OwI w' w.heap.size (.slice (some ⟨g, 0, none⟩) xs.length xs.length) xs ∧ Below w.heap.size w w' := by
  obtain ⟨ao, cap, rfl⟩ := h.val
  have HB0 := hide ((((Below.refl w.heap.size w).alloc (Nat.le_refl _) (.cells #[.slice ao xs.length cap] 25)).alloc (by simp) (.cells #[.slice none 0 0] 31)).alloc (by simp; omega) (.cells #[.slice none 0 0] 31))
  have hk1 : (((w.alloc (.cells #[.slice ao xs.length cap] 25)).alloc (.cells #[.slice none 0 0] 31)).alloc (.cells #[.slice none 0 0] 31)).heap[w.heap.size + 1]? = some (.cells #[.slice none 0 0] 31 (0, 0)) := by
    rw [Below.heap_alloc _ _ _ (by simp)]
    have := heap_alloc_new (w.alloc (.cells #[.slice ao xs.length cap] 25)) (.cells #[.slice none 0 0] 31)
    simpa using this
  have hk2 : (((w.alloc (.cells #[.slice ao xs.length cap] 25)).alloc (.cells #[.slice none 0 0] 31)).alloc (.cells #[.slice none 0 0] 31)).heap[w.heap.size + 1 + 1]? = some (.cells #[.slice none 0 0] 31 (0, 0)) := by
    have := heap_alloc_new ((w.alloc (.cells #[.slice ao xs.length cap] 25)).alloc (.cells #[.slice none 0 0] 31)) (.cells #[.slice none 0 0] 31)
    simpa using this
  have hs0 : (((w.alloc (.cells #[.slice ao xs.length cap] 25)).alloc (.cells #[.slice none 0 0] 31)).alloc (.cells #[.slice none 0 0] 31)).heap.size = w.heap.size + 3 := by simp
  have HI := hide (toItemsL B xs _ _ (h.below HB0.out hB) (by omega) hn)
  have HH := hide (And.intro hk1 hk2)
  generalize hN : xs.length = n at *
  clear h hk1 hk2
  go_enter Tryz.func60, Tryz.ntmps60
  go_wp2_with fail
  generalize ((w.alloc (.cells #[.slice ao n cap] 25)).alloc (.cells #[.slice none 0 0] 31)).alloc (.cells #[.slice none 0 0] 31) = w0 at *
  refine HI.out.mono ?_
  rintro e w1 ⟨rfl, ho, hb1⟩
  have HB1 := hide (HB0.out.trans (hb1.mono (by omega)))
  have g1 := (hb1.block (w.heap.size + 1) (by omega)).trans HH.out.1
  have g2 := (hb1.block (w.heap.size + 1 + 1) (by omega)).trans HH.out.2
  have hs1 := hb1.size
  have l0 : w1.cell? ⟨w.heap.size + 1, 0, none⟩ = some (.slice none 0 0) := by rw [cell_of_row w1 _ 0 _ _ _ g1]; rfl
  have m0 : w1.cell? ⟨w.heap.size + 1 + 1, 0, none⟩ = some (.slice none 0 0) := by rw [cell_of_row w1 _ 0 _ _ _ g2]; rfl
  have fl0 := frozen_of_row w1 (w.heap.size + 1) 0 _ _ g1
  have fm0 := frozen_of_row w1 (w.heap.size + 1 + 1) 0 _ _ g2
  have HO := hide ho
  clear ho hb1 HH g1 g2 HB0 HI
  go_wp2
  refine bodyPost_ret (v := .agg #[.slice (some ⟨w0.heap.size, 0, none⟩) n n]) (by simp [results, Tryz.results60, go_sem, l0]) rfl ?_
  refine ⟨w0.heap.size, by omega, rfl, ?_, (HB1.out.setCell (by simp; omega) _).setCell (by simp) _⟩
  refine OwI.base (base := w0.heap.size) ?_ (by omega)
  refine owns_of_block HO.out fun k hk => ?_
  simp only [Value.ownBlock, Option.some.injEq] at hk
  subst hk
  rw [heap_setCell_other _ _ _ _ (by simp; omega), heap_setCell_other _ _ _ _ (by simp; omega)]
end Go.Proofs.YtbgngikejgihgahGreatDoor

namespace Go.Proofs.YtbgngikejgihgahGreatDoor
open Go Go.RowKit
set_option linter.unusedVariables false

set_option maxHeartbeats 1000000 in
theorem eqPieceL (p : Pc) (w : World) : Calls Tryz.prog 246 #[pcV p, pcV p] w fun e w' => e = .returned (.bool true) ∧ Below w.heap.size w w' := by
  unfold pcV
  have h0 : (p.off != p.off) = false := by simp
  have h1 : (p.len != p.len) = false := by simp
  have h2 : (p.brk != p.brk) = false := by simp
  go_enter Tryz.func246, Tryz.ntmps246
  go_wp2
  go_ret
  exact ⟨rfl, ((Below.refl _ _).alloc (Nat.le_refl _) _).alloc (by simp) _⟩

set_option maxHeartbeats 1000000 in
set_option maxRecDepth 100000 in
theorem eqItemL (x : It) (w : World) : Calls Tryz.prog 196 #[itA x, itA x] w fun e w' => e = .returned (.bool true) ∧ Below w.heap.size w w' := by
  obtain ⟨⟨po, pl, pb⟩, lv⟩ := x
  unfold itA
  simp only
  have h0 : (lv != lv) = false := by simp
  have HB0 := hide (((Below.refl w.heap.size w).alloc (Nat.le_refl _) (.cells #[.int .i64 po, .int .i64 pl, .int .i64 pb, .int .i64 lv] 132)).alloc (by simp) (.cells #[.int .i64 po, .int .i64 pl, .int .i64 pb, .int .i64 lv] 132))
  have k0 : ((w.alloc (.cells #[.int .i64 po, .int .i64 pl, .int .i64 pb, .int .i64 lv] 132)).alloc (.cells #[.int .i64 po, .int .i64 pl, .int .i64 pb, .int .i64 lv] 132)).heap[w.heap.size]? = some (.cells #[.int .i64 po, .int .i64 pl, .int .i64 pb, .int .i64 lv] 132 (0, 0)) := by
    rw [Below.heap_alloc _ _ _ (by simp)]; exact heap_alloc_new _ _
  have k1 : ((w.alloc (.cells #[.int .i64 po, .int .i64 pl, .int .i64 pb, .int .i64 lv] 132)).alloc (.cells #[.int .i64 po, .int .i64 pl, .int .i64 pb, .int .i64 lv] 132)).heap[w.heap.size + 1]? = some (.cells #[.int .i64 po, .int .i64 pl, .int .i64 pb, .int .i64 lv] 132 (0, 0)) := by
    have := heap_alloc_new (w.alloc (.cells #[.int .i64 po, .int .i64 pl, .int .i64 pb, .int .i64 lv] 132)) (.cells #[.int .i64 po, .int .i64 pl, .int .i64 pb, .int .i64 lv] 132)
    simpa using this
  have hs0 : ((w.alloc (.cells #[.int .i64 po, .int .i64 pl, .int .i64 pb, .int .i64 lv] 132)).alloc (.cells #[.int .i64 po, .int .i64 pl, .int .i64 pb, .int .i64 lv] 132)).heap.size = w.heap.size + 2 := by simp
  have HK := hide (And.intro k0 k1)
  clear k0 k1
  go_enter Tryz.func196, Tryz.ntmps196
  go_wp2_with fail
  generalize (w.alloc (.cells #[.int .i64 po, .int .i64 pl, .int .i64 pb, .int .i64 lv] 132)).alloc (.cells #[.int .i64 po, .int .i64 pl, .int .i64 pb, .int .i64 lv] 132) = w0 at *
  refine (eqPieceL ⟨po, pl, pb⟩ w0).mono ?_
  rintro e w1 ⟨rfl, hb1⟩
  have HB1 := hide (HB0.out.trans (hb1.mono (by omega)))
  have g0 := (hb1.block w.heap.size (by omega)).trans HK.out.1
  have g1 := (hb1.block (w.heap.size + 1) (by omega)).trans HK.out.2
  have c0 : w1.cell? ⟨w.heap.size, 3, none⟩ = some (.int .i64 lv) := by rw [cell_of_row w1 _ 3 _ _ _ g0]; rfl
  have c1 : w1.cell? ⟨w.heap.size + 1, 3, none⟩ = some (.int .i64 lv) := by rw [cell_of_row w1 _ 3 _ _ _ g1]; rfl
  have hs1 := hb1.size
  clear hb1 g0 g1 HK HB0
  go_wp2
  go_ret
  exact ⟨rfl, HB1.out⟩

set_option maxHeartbeats 2000000 in
set_option maxRecDepth 100000 in
theorem eqItemsL (B C : Nat) (xs : List It) (v u : Value) (w : World) (h1 : RdI B w v xs) (h2 : RdI C w u xs) (hB : B ≤ w.heap.size) (hC : C ≤ w.heap.size) (hn : xs.length ≤ 1048576) :
    Calls Tryz.prog 133 #[v, u] w fun e w' => e = .returned (.bool true) ∧ Below w.heap.size w w' := by
  by_cases h0 : xs = []
  · subst h0
    obtain ⟨a1, c1, rfl⟩ := h1.val
    obtain ⟨a2, c2, rfl⟩ := h2.val
    clear h1 h2
    simp only [List.length_nil]
    go_enter Tryz.func133, Tryz.ntmps133
    go_wp2_with fail
    refine wp_loop_rounds 1 ?_
    rw [rounds_succ]
    go_wp2
    go_ret
    exact ⟨rfl, Below.refl _ _⟩
  · obtain ⟨b, o, c, rfl, ⟨p0, p1, p2⟩, hb, hc⟩ := h1.at h0
    obtain ⟨b', o', c', rfl, ⟨q0, q1, q2⟩, hb', hc'⟩ := h2.at h0
    have HC := hide hc
    have HC' := hide hc'
    have hnn : ((xs.length : Int) != (xs.length : Int)) = false := by simp
    unfold maxLen at p2 q2
    generalize hN : xs.length = n at *
    clear h1 h2 hc hc' h0
    go_enter Tryz.func133, Tryz.ntmps133
    go_wp2_with fail
    go_loopw [5] (fun i wr => ∃ k : Nat, k ≤ n ∧ i = .int .i64 k ∧ Below w.heap.size w wr) (fun i _ => n - (intOf i).toNat)
    case atStart => exact ⟨0, Nat.zero_le _, rfl, Below.refl _ _⟩
    case round =>
      obtain ⟨k, hk, rfl, hbw⟩ := hrel
      have HBW := hide hbw
      have hsw := hbw.size
      by_cases hlt : k < n
      · obtain ⟨x, hx, a0, a1, a2, a3⟩ := itAt_of' HC.out (show k < xs.length by omega)
        obtain ⟨x', hx', d0, d1, d2, d3⟩ := itAt_of' HC'.out (show k < xs.length by omega)
        obtain rfl : x' = x := by rw [hx] at hx'; exact (Option.some.inj hx').symm
        have hbl : b < w.heap.size := by omega
        have hbl' : b' < w.heap.size := by omega
        have e0 := (hbw.cell (p := ⟨b, o + k * 4, none⟩) hbl).trans a0
        have e1 := (hbw.cell (p := ⟨b, o + k * 4 + 1, none⟩) hbl).trans a1
        have e2 := (hbw.cell (p := ⟨b, o + k * 4 + 2, none⟩) hbl).trans a2
        have e3 := (hbw.cell (p := ⟨b, o + k * 4 + 3, none⟩) hbl).trans a3
        have g0 := (hbw.cell (p := ⟨b', o' + k * 4, none⟩) hbl').trans d0
        have g1 := (hbw.cell (p := ⟨b', o' + k * 4 + 1, none⟩) hbl').trans d1
        have g2 := (hbw.cell (p := ⟨b', o' + k * 4 + 2, none⟩) hbl').trans d2
        have g3 := (hbw.cell (p := ⟨b', o' + k * 4 + 3, none⟩) hbl').trans d3
        have hlt' : (k : Int) < n := by omega
        have hbr : b < wr.heap.size := by omega
        have hbr' : b' < wr.heap.size := by omega
        clear a0 a1 a2 a3 d0 d1 d2 d3 hx hx' hbw
        go_upto_region 6 with fail
        go_cut [26] from 11 to 26 (fun s26 wc => s26 = .bool false ∧ Below wr.heap.size wr wc)
        case first =>
          go_region_with (go_at_call 196; refine (eqItemL x' _).mono ?_; rintro e w2 ⟨rfl, hb2⟩; have B2 := hide (show Below wr.heap.size wr w2 from ⟨hb2.os, hb2.tape, hb2.output, hb2.size, hb2.block⟩); clear hb2)
          all_goals (go_wp2_with fail; go_meet; exact ⟨rfl, B2.out⟩)
        case rest =>
          obtain ⟨rfl, hbc⟩ := hcut
          have HBC := hide (HBW.out.trans (hbc.mono hsw))
          clear hbc
          go_wp2
          go_roundw
          case rel => exact ⟨k + 1, by omega, by go_num, HBC.out⟩
          case measure => simp [intOf]; omega
      · obtain rfl : k = n := by omega
        have hge : ¬ (k : Int) < (k : Int) := by omega
        clear hbw
        go_wp2
        go_ret
        exact ⟨rfl, HBW.out⟩

set_option maxHeartbeats 1000000 in
set_option maxRecDepth 100000 in
theorem eqTreeL (B C : Nat) (xs : List It) (v u : Value) (w : World) (h1 : RdI B w v xs) (h2 : RdI C w u xs) (hB : B ≤ w.heap.size) (hC : C ≤ w.heap.size) (hn : xs.length ≤ 1048576) :
    Calls Tryz.prog 65 #[.agg #[v], .agg #[u]] w fun e w' => e = .returned (.bool true) ∧ Below w.heap.size w w' := by
  obtain ⟨a1, c1, rfl⟩ := h1.val
  obtain ⟨a2, c2, rfl⟩ := h2.val
  have HB0 := hide (((Below.refl w.heap.size w).alloc (Nat.le_refl _) (.cells #[.slice a1 xs.length c1] 31)).alloc (by simp) (.cells #[.slice a2 xs.length c2] 31))
  have hs0 : ((w.alloc (.cells #[.slice a1 xs.length c1] 31)).alloc (.cells #[.slice a2 xs.length c2] 31)).heap.size = w.heap.size + 2 := by simp
  have HI := hide (eqItemsL B C xs _ _ _ (h1.below HB0.out hB) (h2.below HB0.out hC) (by omega) (by omega) hn)
  clear h1 h2
  go_enter Tryz.func65, Tryz.ntmps65
  go_wp2_with fail
  refine HI.out.mono ?_
  rintro e w1 ⟨rfl, hb1⟩
  have HB1 := hide (HB0.out.trans (hb1.mono (by omega)))
  clear hb1
  go_wp2
  go_ret
  exact ⟨rfl, HB1.out⟩

set_option maxHeartbeats 1000000 in
set_option maxRecDepth 100000 in
theorem szTreeL (ao : Option Addr) (len cap : Nat) (k : Int) (w : World) (hn : len ≤ maxLen) (hk : 0 ≤ k ∧ k ≤ 1048576) :
    Calls Tryz.prog 56 #[.agg #[.slice ao len cap], .int .i64 k] w fun e w' => e = .returned (.int .i64 (if k - len < 0 then -1 else k - len)) ∧ Below w.heap.size w w' := by
  unfold maxLen at hn
  by_cases h : k - (len : Int) < 0
  · rw [if_pos h]
    go_enter Tryz.func56, Tryz.ntmps56
    go_wp2
    go_ret
    exact ⟨rfl, (Below.refl _ _).alloc (Nat.le_refl _) _⟩
  · rw [if_neg h]
    go_enter Tryz.func56, Tryz.ntmps56
    go_wp2
    go_ret
    exact ⟨rfl, (Below.refl _ _).alloc (Nat.le_refl _) _⟩
end Go.Proofs.YtbgngikejgihgahGreatDoor

namespace Go.Proofs.YtbgngikejgihgahGreatDoor
open Go Go.RowKit

theorem Tryz.info32 : (Tryz.prog.info? 21).map (fun i => (i.zero, i.size, i.bytes)) = some (some (.int .i32 0), 1, 4) := by kernel_rfl

set_option maxHeartbeats 400000 in
theorem to32 (zs : List Int) (v : Value) (w : World) (h : Rd .i32 w v zs) (hn : zs.length ≤ 1099511627776) :
    Calls Tryz.prog 59 #[v] w fun e w' => e = .returned (.slice (some ⟨w.heap.size, 0, none⟩) zs.length zs.length) ∧
      w'.ownsRow w.heap.size 21 1 (.slice (some ⟨w.heap.size, 0, none⟩) zs.length zs.length) zs.length (ints .i32 zs) ∧ Below w.heap.size w w' := by
  obtain ⟨i0, hi, hz0, hz1, hz2⟩ := info_parts Tryz.info32
  rcases h with ⟨ao, cap, rfl, rfl⟩ | ⟨b, off, cap, rfl, hp, hc⟩
  · go_enter Tryz.func59, Tryz.ntmps59
    go_wp2_with (at_make; refine wpList_make_full _ rfl _ _ 22 rfl w.heap.size 21 i0 (.int .i32 0) 1 Tryz.underlying22 hi hz0 hz1 .i64 .i64 _ _ 0 rfl rfl (by omega) (by omega) (by rw [hz2]; omega) (by unfold maxLen; omega) (Nat.le_refl _) ?_; intro w1 hown hgrow)
    rw [made_ints] at hown
    refine wp_loop_rounds 1 ?_
    rw [rounds_succ]
    go_wp2
    go_ret
    exact ⟨rfl, hown, (Below.refl _ _).grown hgrow (Nat.le_refl _) (fun k hk => by cases hk)⟩
  · have hcB : b < w.heap.size := World.block_lt_of_cell? w _ (hc 0 hp.1)
    go_enter Tryz.func59, Tryz.ntmps59
    go_wp2_with (at_make; refine wpList_make_full _ rfl _ _ 22 rfl w.heap.size 21 i0 (.int .i32 0) 1 Tryz.underlying22 hi hz0 hz1 .i64 .i64 _ _ zs.length rfl rfl (by omega) (by omega) (by rw [hz2]; omega) (by unfold maxLen; omega) (Nat.le_refl _) ?_; intro w1 hown hgrow)
    rw [made_ints] at hown
    have hb1 : Below w.heap.size w w1 := (Below.refl _ _).grown hgrow (Nat.le_refl _) (fun k hk => by cases hk)
    have HO : Hid (w1.ownsRow w.heap.size 21 1 (.slice (some ⟨w.heap.size, 0, none⟩) zs.length zs.length) zs.length (ints .i32 (List.replicate zs.length 0))) := hown
    have HC : Hid (∀ i, i < zs.length → w.cell? ⟨b, off + i, none⟩ = some (.int .i32 (zs.getD i 0))) := hc
    clear hown hgrow hc
    go_loopw [4] (fun i wr => ∃ k : Nat, k ≤ zs.length ∧ i = .int .i64 k ∧ wr.ownsRow w.heap.size 21 1 (.slice (some ⟨w.heap.size, 0, none⟩) zs.length zs.length) zs.length (ints .i32 (zs.take k ++ List.replicate (zs.length - k) 0)) ∧ Below w.heap.size w wr)
      (fun i _ => zs.length - (intOf i).toNat)
    case atStart => exact ⟨0, Nat.zero_le _, rfl, by simpa using HO.out, hb1⟩
    case round =>
      obtain ⟨k, hk, rfl, hown, hb⟩ := hrel
      by_cases hlt : k < zs.length
      · have hx : wr.cell? ⟨b, off + k, none⟩ = some (.int .i32 (zs.getD k 0)) := (hb.cell (p := ⟨b, off + k, none⟩) hcB).trans (HC.out k hlt)
        have hy : wr.cell? ⟨w.heap.size, k, none⟩ = some (.int .i32 ((zs.take k ++ List.replicate (zs.length - k) 0).getD k 0)) := by
          exact owns_cell hown k hlt
        have hf : wr.frozen? ⟨w.heap.size, k, none⟩ = false := hown.frozenAt k
        have hst := hown.stored k (.int .i32 (zs.getD k 0))
        rw [ints_set, getD_take_append hlt] at hst
        generalize zs.getD k 0 = z at hx hst
        generalize (zs.take k ++ List.replicate (zs.length - k) 0).getD k 0 = z' at hy
        have HS := hide hst
        have HB := hide hb
        clear hst hb hown
        go_wp2
        go_roundw
        case rel => exact ⟨k + 1, by omega, by go_num, HS.out.1, HB.out.setCell (Nat.le_refl _) _⟩
        case measure => simp [intOf]; omega
      · obtain rfl : k = zs.length := by omega
        rw [List.take_length, Nat.sub_self, List.replicate_zero, List.append_nil] at hown
        have HO2 := hide hown
        have HB := hide hb
        clear hb hown
        go_wp2
        go_ret
        exact ⟨rfl, HO2.out, HB.out⟩
end Go.Proofs.YtbgngikejgihgahGreatDoor

namespace Go.Proofs.YtbgngikejgihgahGreatDoor
open Go Go.RowKit

set_option maxHeartbeats 400000 in
theorem eq32 (xs : List Int) (v u : Value) (w : World) (h1 : Rd .i32 w v xs) (h2 : Rd .i32 w u xs) (hn : xs.length ≤ 1099511627776) :
    Calls Tryz.prog 64 #[v, u] w fun e w' => e = .returned (.bool true) ∧ ∃ n, w' = w.drewN n := by
  by_cases h0 : xs.length = 0
  · have e0 : xs = [] := List.eq_nil_of_length_eq_zero h0
    subst e0
    obtain ⟨ao, cap, rfl⟩ : ∃ ao cap, v = .slice ao 0 cap := by
      rcases h1 with ⟨ao, cap, rfl, _⟩ | ⟨_, _, _, _, hp, _⟩
      · exact ⟨_, _, rfl⟩
      · simp at hp
    obtain ⟨ao', cap', rfl⟩ : ∃ ao cap, u = .slice ao 0 cap := by
      rcases h2 with ⟨ao, cap, rfl, _⟩ | ⟨_, _, _, _, hp, _⟩
      · exact ⟨_, _, rfl⟩
      · simp at hp
    clear h1 h2
    go_enter Tryz.func64, Tryz.ntmps64
    go_wp2
    refine wp_loop_rounds 1 ?_
    rw [rounds_succ]
    go_wp2
    go_ret
    exact ⟨rfl, 0, rfl⟩
  · obtain ⟨b, off, cap, rfl, hc⟩ : ∃ b off cap, v = .slice (some ⟨b, off, none⟩) xs.length cap ∧ ∀ i, i < xs.length → w.cell? ⟨b, off + i, none⟩ = some (.int .i32 (xs.getD i 0)) := by
      rcases h1 with ⟨ao, cap, _, e⟩ | ⟨b, off, cap, e, hp, hc⟩
      · subst e; simp at h0
      · exact ⟨b, off, cap, e, hc⟩
    obtain ⟨b', off', cap', rfl, hc'⟩ : ∃ b off cap, u = .slice (some ⟨b, off, none⟩) xs.length cap ∧ ∀ i, i < xs.length → w.cell? ⟨b, off + i, none⟩ = some (.int .i32 (xs.getD i 0)) := by
      rcases h2 with ⟨ao, cap, _, e⟩ | ⟨b, off, cap, e, hp, hc⟩
      · subst e; simp at h0
      · exact ⟨b, off, cap, e, hc⟩
    clear h1 h2
    generalize hl : xs.length = n at *
    clear hl
    have hne : ((n : Int) != (n : Int)) = false := by simp
    have HC := hide hc
    have HC' := hide hc'
    clear hc hc'
    go_enter Tryz.func64, Tryz.ntmps64
    go_wp2
    go_loopw [5] (fun i wr => ∃ k nq : Nat, k ≤ n ∧ i = .int .i64 k ∧ wr = w.drewN nq) (fun i _ => n - (intOf i).toNat)
    case atStart => exact ⟨0, 0, Nat.zero_le _, rfl, rfl⟩
    case round =>
      obtain ⟨k, nq, hk, rfl, rfl⟩ := hrel
      by_cases hlt : k < n
      · have hx := HC.out k hlt
        have hy := HC'.out k hlt
        generalize xs.getD k 0 = z at hx hy
        have hz : (z != z) = false := by simp
        go_wp2
        go_quiet (fail)
        go_wp2
        go_roundw
        case rel => exact ⟨k + 1, _, by omega, by go_num, rfl⟩
        case measure => simp [intOf]; omega
      · go_wp2
        go_ret
        exact ⟨rfl, _, rfl⟩
end Go.Proofs.YtbgngikejgihgahGreatDoor
