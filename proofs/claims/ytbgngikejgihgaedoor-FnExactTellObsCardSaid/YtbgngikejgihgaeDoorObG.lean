import Derived.Test.YtbgngikejgihgaeDoorObH
namespace Go.Proofs.YtbgngikejgihgaeDoor
open Go Go.RowKit
set_option linter.unusedVariables false

set_option maxHeartbeats 2000000 in
set_option maxRecDepth 100000 in
theorem toHexL (zs : List Int) (tv : Value) (w : World) (ht : Rd .u8 w tv zs) (hn : zs.length ≤ 500000000000) (hz : ∀ z ∈ zs, 0 ≤ z ∧ z ≤ 255) :
    Calls Tryd.prog 47 #[tv] w fun e w' => ∃ v', e = .returned v' ∧ OwB w' w.heap.size v' (hexB zs) ∧ Below w.heap.size w w' := by
  obtain ⟨i0, hi, hz0, hz1, hz2⟩ := info_parts Tryd.info8
  obtain ⟨ta, tc, htv⟩ : ∃ ao cap, tv = .slice ao zs.length cap := by
    rcases ht with ⟨ao, cap, rfl, rfl⟩ | ⟨b, off, cap, rfl, _⟩ <;> exact ⟨_, _, rfl⟩
  have RD := hide (fun (wr : World) (hb : Below w.heap.size w wr) => ht.below hb)
  subst htv
  have HZ := hide hz
  have O0 := hide (show (w.alloc (.cells #[] 5)).ownsRow w.heap.size 5 1 (.slice (some ⟨w.heap.size, 0, none⟩) 0 0) 0 [] from World.ownsRow_made w #[] 0 (Nat.le_refl _) (Nat.zero_le _) rfl)
  have B0 := hide ((Below.refl w.heap.size w).alloc (Nat.le_refl _) (.cells #[] 5))
  have HSN := hide (hexB_snoc zs)
  have HT0 := hide (show hexB (zs.take 0) = [] from rfl)
  have HTN := hide (show zs.take zs.length = zs from List.take_length)
  have MEM := hide (show ∀ k, k < zs.length → zs.getD k 0 ∈ zs from fun k hk => by rw [List.getD_eq_getElem?_getD, List.getElem?_eq_getElem hk]; simp)
  have HXL := hide (hexB_length zs)
  generalize hN : zs.length = m at *
  clear hz hN ht
  go_enter Tryd.func47, Tryd.ntmps47
  go_wp2_with fail
  generalize w.alloc (.cells #[] 5) = w1 at *
  go_loopw [4, 10] (fun bv iv wr => ∃ k : Nat, k ≤ m ∧ iv = .int .i64 k ∧ wr.ownsRow w.heap.size 5 1 bv (2 * k) (ints .u8 (hexB (zs.take k))) ∧ Below w.heap.size w wr) (fun _ iv _ => m - (intOf iv).toNat)
  case atStart => exact ⟨0, Nat.zero_le _, rfl, by rw [HT0.out]; exact O0.out, B0.out⟩
  case round =>
    obtain ⟨k, hk, rfl, hob, hbw⟩ := hrel
    have HOB := hide hob
    have HBW := hide hbw
    have hsw := hbw.size
    obtain ⟨a1, m1, c1, rfl⟩ : ∃ ao m c, u4 = .slice ao m c := by
      rcases hob.2 with ⟨rfl, _⟩ | ⟨g, cap, cur, rfl, _⟩ <;> exact ⟨_, _, _, rfl⟩
    by_cases hkm : k < m
    · have hkm' : (k : Int) < (m : Int) := by omega
      obtain ⟨gb, go, rfl, hm2, cz⟩ : ∃ gb go, ta = some ⟨gb, go, none⟩ ∧ m ≤ tc ∧ wr.cell? ⟨gb, go + k, none⟩ = some (.int .u8 (zs.getD k 0)) := by
        rcases RD.out wr hbw with ⟨ao, cap, e, _⟩ | ⟨b, off, cap, e, hp, hc⟩
        · simp only [Value.slice.injEq] at e; omega
        · simp only [Value.slice.injEq] at e
          obtain ⟨e1, e2, e3⟩ := e
          exact ⟨b, off, e1, by omega, hc k (by omega)⟩
      have hgl : gb < wr.heap.size := World.block_lt_of_cell? wr _ cz
      have hzr := HZ.out (zs.getD k 0) (MEM.out k hkm)
      have hsn := HSN.out k hkm
      generalize zs.getD k 0 = z at cz hzr hsn
      have HS := hide hsn
      have h16 : 0 ≤ z / 16 ∧ z / 16 < 16 := by omega
      have hr16 : 0 ≤ z % 16 ∧ z % 16 < 16 := by omega
      obtain ⟨qa, hqa⟩ : ∃ q : Nat, hexD (z / 16) = (q : Int) := Int.eq_ofNat_of_zero_le (hexD_byte h16).1
      obtain ⟨qb, hqb⟩ : ∃ q : Nat, hexD (z % 16) = (q : Int) := Int.eq_ofNat_of_zero_le (hexD_byte hr16).1
      rw [hqa, hqb] at HS
      have hA : ∀ h, (((ByteArray.mk #[48, 49, 50, 51, 52, 53, 54, 55, 56, 57, 97, 98, 99, 100, 101, 102])[(z / 16).toNat]'h).toNat) = qa := fun h => by
        have := hexAt (z / 16).toNat h; rw [Int.toNat_of_nonneg h16.1, hqa] at this; omega
      have hBb : ∀ h, (((ByteArray.mk #[48, 49, 50, 51, 52, 53, 54, 55, 56, 57, 97, 98, 99, 100, 101, 102])[(z % 16).toNat]'h).toNat) = qb := fun h => by
        have := hexAt (z % 16).toNat h; rw [Int.toNat_of_nonneg hr16.1, hqb] at this; omega
      have hw1 : IntKind.u8.wrap (z.tdiv 16) = z / 16 := by rw [Int.tdiv_eq_ediv_of_nonneg hzr.1]; exact wrap_u8 _ (by omega)
      have hw2 : z.tmod 16 = z % 16 := Int.tmod_eq_emod_of_nonneg hzr.1
      clear hqa hqb hob hbw hsn
      go_upto_region 6 with fail
      go_region_law (refine step_append_lies _ rfl _ _ 44 rfl w.heap.size 5 i0 (.int .u8 0) 1 1 Tryd.underlying44 hi hz0 hz1 hz2 rfl (by decide) (.slice a1 m1 c1) (2 * k) _ rfl (by exact World.ownsRow.alloc HOB.out _) ⟨wr.heap.size, 0, none⟩ 2 2 [.int .u8 qa, .int .u8 qb] rfl rfl (by exact newcells wr _ _) (by simp [Value.oneCell']) (by omega) (by unfold maxLen; omega) (by omega) (by simp; omega) (wr.heap.size + 1) (by simp) ?_; intro g5 cap5 x8 ho5 hg5 hor5 hgl5; have O5 := hide ho5; have G5 := hide (show (wr.alloc (.cells #[.int .u8 qa, .int .u8 qb] 5)).grownBy x8 (Value.ownBlock (.slice a1 m1 c1)) from ⟨hg5.os, hg5.tape, hg5.output, hg5.size, hg5.block⟩); clear ho5 hg5 hor5)
      all_goals (
        have B5 := hide ((HBW.out.alloc hsw (.cells #[.int .u8 qa, .int .u8 qb] 5)).grown G5.out (by simp; omega) (fun q hq => (HOB.out.lt q hq).1))
        clear G5
        go_wp2
        go_roundw
        case rel =>
          refine ⟨k + 1, by omega, by go_num, ?_, B5.out⟩
          rw [HS.out, ints_append]
          exact O5.out
        case measure => (simp [intOf]; try omega))
    · obtain rfl : m = k := by omega
      have hge : ¬ (m : Int) < (m : Int) := by omega
      rw [HTN.out] at HOB
      clear hob hbw
      go_wp2
      go_ret
      refine ⟨_, rfl, ?_, HBW.out⟩
      unfold OwB
      rw [HXL.out]
      exact HOB.out
end Go.Proofs.YtbgngikejgihgaeDoor
