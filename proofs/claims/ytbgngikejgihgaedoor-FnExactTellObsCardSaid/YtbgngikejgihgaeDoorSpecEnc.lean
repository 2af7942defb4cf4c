import Derived.Test.YtbgngikejgihgaeDoorProg
import Derived.Test.YtbgngikejgihgaeDoorL1b
import Derived.WalkKit
import Derived.WalkLawsBesides
namespace Go.Proofs.YtbgngikejgihgaeDoor
open Go Go.RowKit

theorem Tryd.infoC : (Tryd.prog.info? 5).map (fun i => (i.zero, i.size, i.bytes)) = some (some (.int .u8 0), 1, 1) := by kernel_rfl

set_option maxHeartbeats 400000 in
theorem specEnc (zs : List Int) (v : Value) (w : World) (h : Rd .i32 w v zs) (hn : zs.length ≤ 1048576) (hr : ∀ z ∈ zs, -2147483648 ≤ z ∧ z ≤ 2147483647) :
    Calls Tryd.prog 48 #[v] w fun e w' => ∃ v', e = .returned v' ∧ w'.ownsRow w.heap.size 5 1 v' (encs zs).length (ints .u8 (encs zs)) ∧ Below w.heap.size w w' := by
  obtain ⟨i0, hi, hz0, hz1, hz2⟩ := info_parts Tryd.infoC
  rcases h with ⟨ao, cap, rfl, rfl⟩ | ⟨b, off, cap, rfl, hp, hc⟩
  · go_enter Tryd.func48, Tryd.ntmps48
    go_wp2
    have hown : (w.alloc (.cells #[] 5)).ownsRow w.heap.size 5 1 (.slice (some ⟨w.heap.size, 0, none⟩) 0 0) 0 [] := World.ownsRow_made w #[] 0 (Nat.le_refl _) (Nat.zero_le _) rfl
    have HO := hide hown
    clear hown
    refine wp_loop_rounds 1 ?_
    rw [rounds_succ]
    go_wp2
    go_ret
    exact ⟨_, rfl, HO.out, (Below.refl _ _).alloc (Nat.le_refl _) _⟩
  · have hcB : b < w.heap.size := World.block_lt_of_cell? w _ (hc 0 hp.1)
    have HC := hide hc
    have HR := hide hr
    clear hc hr
    have hown : (w.alloc (.cells #[] 5)).ownsRow w.heap.size 5 1 (.slice (some ⟨w.heap.size, 0, none⟩) 0 0) 0 [] := World.ownsRow_made w #[] 0 (Nat.le_refl _) (Nat.zero_le _) rfl
    have HO := hide hown
    clear hown
    go_enter Tryd.func48, Tryd.ntmps48
    go_wp2
    go_loopw [3, 9] (fun out i wr => ∃ k : Nat, k ≤ zs.length ∧ i = .int .i64 k ∧ wr.ownsRow w.heap.size 5 1 out (encs (zs.take k)).length (ints .u8 (encs (zs.take k))) ∧ Below w.heap.size w wr)
      (fun _ i _ => zs.length - (intOf i).toNat)
    case atStart => exact ⟨0, Nat.zero_le _, rfl, by simpa [encs, ints] using HO.out, (Below.refl _ _).alloc (Nat.le_refl _) _⟩
    case round =>
      obtain ⟨k, hk, rfl, hown, hb⟩ := hrel
      by_cases hlt : k < zs.length
      · have hx : wr.cell? ⟨b, off + k, none⟩ = some (.int .i32 (zs.getD k 0)) := (hb.cell (p := ⟨b, off + k, none⟩) hcB).trans (HC.out k hlt)
        have hsn := encs_snoc zs k hlt
        have hrz := HR.out (zs.getD k 0) (by rw [List.getD_eq_getElem?_getD, List.getElem?_eq_getElem hlt]; simp)
        have hle := encs_length (zs.take k)
        have hle' : (zs.take k).length ≤ k := List.length_take_le _ _
        have hsz := hb.size
        generalize zs.getD k 0 = z at hx hsn hrz
        have hel := encZ_length z
        obtain ⟨hr0, hr1⟩ := hrz
        have HSN := hide hsn
        have HOW := hide hown
        have HB := hide hb
        clear hsn hown hb
        generalize he : encs (zs.take k) = es at *
        have HE := hide he
        clear he
        go_wp2_with fail
        refine (l1b z wr hr0 (by omega)).mono ?_
        rintro e w1 ⟨rfl, rfl⟩
        go_wp2_with (at_builtin; refine wpList_append_own _ rfl _ _ 44 rfl w.heap.size 5 i0 (.int .u8 0) 1 1 Tryd.underlying44 hi hz0 hz1 hz2 rfl (by decide) _ _ _ rfl (HOW.out.alloc _) ⟨wr.heap.size, 0, none⟩ (encZ z).length (encZ z).length (ints .u8 (encZ z)) rfl (by rw [ints_length, Nat.mul_one]) (newcells _ _ _) (ints_one _ _) (by unfold maxLen; omega) (by omega) (by simp; omega) ?_; intro v' w2 hown' hgrow _)
        have hb2 : Below w.heap.size w w2 := (HB.out.alloc hsz _).grown hgrow (by simp; omega) (fun q hq => (HOW.out.lt q hq).1)
        rw [← ints_append] at hown'
        have HO2 := hide hown'
        have HB2 := hide hb2
        clear hown' hb2 hgrow
        go_wp2
        go_roundw
        case rel => exact ⟨k + 1, by omega, by go_num, by rw [HSN.out, List.length_append]; exact HO2.out, HB2.out⟩
        case measure => simp [intOf]; omega
      · obtain rfl : k = zs.length := by omega
        rw [List.take_length] at hown
        have HO2 := hide hown
        have HB2 := hide hb
        clear hown hb
        go_wp2
        go_ret
        exact ⟨_, rfl, HO2.out, HB2.out⟩
end Go.Proofs.YtbgngikejgihgaeDoor
