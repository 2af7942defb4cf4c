import Derived.Test.YtbgngikejgihgaeDoorObP
import Derived.Laws.Rows
import Derived.Deep.AppendLies
import Derived.Deep.RegionLaw
import Derived.Deep.RegionWith
import Derived.Deep.CutBlock
import Derived.Deep.DeepCutAuto
import Derived.Deep.LoopGhost
namespace Go.Proofs.YtbgngikejgihgaeDoor
open Go Go.RowKit
set_option linter.unusedVariables false

set_option maxHeartbeats 2000000 in
set_option maxRecDepth 100000 in
theorem appendHexL (B n gt ct : Nat) (zs : List Int) (sv : Value) (xs : List Value) (w : World) (hown : w.ownsRow B 5 1 sv n xs) (hB : B ≤ w.heap.size) (hn : n + 2 * zs.length ≤ 1000000000000) (hz : ∀ z ∈ zs, 0 ≤ z ∧ z ≤ 255) (hc : ∀ i, i < zs.length → w.cell? ⟨gt, i, none⟩ = some (.int .u8 (zs.getD i 0))) (hne : sv.ownBlock ≠ some gt) (hgt : gt < w.heap.size) :
    Calls Tryd.prog 77 #[sv, .slice (some ⟨gt, 0, none⟩) zs.length ct] w fun e w' => ∃ v', e = .returned v' ∧ w'.ownsRow B 5 1 v' (n + 2 * zs.length) (xs ++ ints .u8 (hexB zs)) ∧ Below B w w' ∧ K8 w w' := by
  obtain ⟨i0, hi, hz0, hz1, hz2⟩ := info_parts Tryd.info8
  obtain ⟨ao, ml, cp, hsv⟩ : ∃ ao m c, sv = .slice ao m c := by
    rcases hown.2 with ⟨rfl, _⟩ | ⟨g, cap, cur, rfl, _⟩ <;> exact ⟨_, _, _, rfl⟩
  subst hsv
  have HC := hide hc
  have HZ := hide hz
  have HO := hide hown
  have HNE := hide hne
  have HSN := hide (hexB_snoc zs)
  have HT0 := hide (show hexB (zs.take 0) = [] from rfl)
  have HTN := hide (show zs.take zs.length = zs from List.take_length)
  have HLK := hide (show ∀ k, k ≤ zs.length → (hexB (zs.take k)).length = 2 * k from fun k hk => by rw [hexB_length, List.length_take]; omega)
  have MEM := hide (show ∀ k, k < zs.length → zs.getD k 0 ∈ zs from fun k hk => by rw [List.getD_eq_getElem?_getD, List.getElem?_eq_getElem hk]; simp)
  generalize hN : zs.length = m at *
  clear hown hc hz hne hN
  go_enter Tryd.func77, Tryd.ntmps77
  go_wp2_with fail
  go_loopw [0, 9] (fun bv iv wr => ∃ k : Nat, k ≤ m ∧ iv = .int .i64 k ∧ wr.ownsRow B 5 1 bv (n + 2 * k) (xs ++ ints .u8 (hexB (zs.take k))) ∧ bv.ownBlock ≠ some gt ∧ gt < wr.heap.size ∧ (∀ i, wr.cell? ⟨gt, i, none⟩ = w.cell? ⟨gt, i, none⟩) ∧ Below B w wr ∧ K8 w wr) (fun _ iv _ => m - (intOf iv).toNat)
  case atStart => exact ⟨0, Nat.zero_le _, rfl, by rw [HT0.out]; simpa [ints] using HO.out, HNE.out, hgt, fun _ => rfl, Below.refl _ _, K8.refl _⟩
  case round =>
    obtain ⟨k, hk, rfl, hob, hnb, hgl, hcc, hbw, hk8⟩ := hrel
    have HOB := hide hob
    have HNB := hide hnb
    have HCC := hide hcc
    have HBW := hide hbw
    have H8 := hide hk8
    have hsw := hbw.size
    obtain ⟨a1, m1, c1, rfl⟩ : ∃ ao m c, u0 = .slice ao m c := by
      rcases hob.2 with ⟨rfl, _⟩ | ⟨g, cap, cur, rfl, _⟩ <;> exact ⟨_, _, _, rfl⟩
    by_cases hkm : k < m
    · have hkm' : (k : Int) < (m : Int) := by omega
      have cz := (hcc k).trans (HC.out k hkm)
      have hzr := HZ.out (zs.getD k 0) (MEM.out k hkm)
      have hsn := HSN.out k hkm
      generalize zs.getD k 0 = z at cz hzr hsn
      have HS := hide hsn
      clear hob hnb hcc hbw hk8 hsn
      have h16 : 0 ≤ z / 16 ∧ z / 16 < 16 := by omega
      have hr16 : 0 ≤ z % 16 ∧ z % 16 < 16 := by omega
      have hand := and15 z hzr
      obtain ⟨qa, hqa⟩ : ∃ q : Nat, hexD (z / 16) = (q : Int) := Int.eq_ofNat_of_zero_le (hexD_byte h16).1
      obtain ⟨qb, hqb⟩ : ∃ q : Nat, hexD (z % 16) = (q : Int) := Int.eq_ofNat_of_zero_le (hexD_byte hr16).1
      rw [hqa, hqb] at HS
      have hA : ∀ h, (((ByteArray.mk #[48, 49, 50, 51, 52, 53, 54, 55, 56, 57, 97, 98, 99, 100, 101, 102])[(z / 16).toNat]'h).toNat) = qa := fun h => by
        have := hexAt (z / 16).toNat h; rw [Int.toNat_of_nonneg h16.1, hqa] at this; omega
      have hBb : ∀ h, (((ByteArray.mk #[48, 49, 50, 51, 52, 53, 54, 55, 56, 57, 97, 98, 99, 100, 101, 102])[(z % 16).toNat]'h).toNat) = qb := fun h => by
        have := hexAt (z % 16).toNat h; rw [Int.toNat_of_nonneg hr16.1, hqb] at this; omega
      clear hqa hqb
      go_upto_region 4 with fail
      go_region_law (refine step_append_lies _ rfl _ _ 44 rfl B 5 i0 (.int .u8 0) 1 1 Tryd.underlying44 hi hz0 hz1 hz2 rfl (by decide) (.slice a1 m1 c1) (n + 2 * k) _ rfl (by exact World.ownsRow.alloc HOB.out _) ⟨wr.heap.size, 0, none⟩ 2 2 [.int .u8 qa, .int .u8 qb] rfl rfl (by exact newcells wr _ _) (by simp [Value.oneCell']) (by omega) (by unfold maxLen; omega) (by omega) (by simp; omega) (wr.heap.size + 1) (by simp) ?_; intro g5 cap5 x8 ho5 hg5 hor5 hgl5; have O5 := hide ho5; have G5 := hide (show (wr.alloc (.cells #[.int .u8 qa, .int .u8 qb] 5)).grownBy x8 (Value.ownBlock (.slice a1 m1 c1)) from ⟨hg5.os, hg5.tape, hg5.output, hg5.size, hg5.block⟩); have R5 := hide hor5; clear ho5 hg5 hor5)
      all_goals (
        have A5 := hide ((Below.refl B wr).alloc (by omega) (.cells #[.int .u8 qa, .int .u8 qb] 5))
        have B5 := hide (HBW.out.trans (A5.out.grown G5.out (by simp; omega) (fun q hq => (HOB.out.lt q hq).1)))
        have K5 := hide (H8.out.trans ((K8.alloc wr (.cells #[.int .u8 qa, .int .u8 qb] 5)).trans (K8.grown (World.ownsRow.alloc HOB.out (.cells #[.int .u8 qa, .int .u8 qb] 5)) G5.out)))
        have C5 := hide (show ∀ i, x8.cell? ⟨gt, i, none⟩ = w.cell? ⟨gt, i, none⟩ from fun i => by
          rw [← HCC.out i]
          exact World.cell?_of_block ((G5.out.block gt (by simp; omega) (fun e => HNB.out e.symm)).trans (Below.heap_alloc _ _ _ hgl)))
        have N5 := hide (show Value.ownBlock (.slice (some ⟨g5, 0, none⟩) (n + 2 * k + 2) cap5) ≠ some gt from fun e => by
          have e2 : g5 = gt := by simpa [Value.ownBlock] using e
          subst e2
          rcases R5.out with h | h
          · exact HNB.out h
          · omega)
        have L5 := G5.out.size
        simp only [World.size_alloc] at L5
        clear G5 R5 A5
        go_wp2
        go_roundw
        case rel =>
          refine ⟨k + 1, by omega, by go_num, ?_, N5.out, by omega, C5.out, B5.out, K5.out⟩
          rw [HS.out, ints_append, ← List.append_assoc]
          exact O5.out
        case measure => (simp [intOf]; try omega))
    · obtain rfl : m = k := by omega
      have hge : ¬ (m : Int) < (m : Int) := by omega
      rw [HTN.out] at HOB
      clear hob hnb hcc hbw hk8
      go_wp2
      go_ret
      exact ⟨_, rfl, HOB.out, HBW.out, H8.out⟩
end Go.Proofs.YtbgngikejgihgaeDoor
