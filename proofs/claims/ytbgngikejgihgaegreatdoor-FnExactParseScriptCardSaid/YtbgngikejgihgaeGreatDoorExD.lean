import Derived.Test.YtbgngikejgihgaeGreatDoorByR
import Derived.Lib.ItoaLen
import Derived.Laws.Rows
import Derived.Deep.RegionWith
namespace Go.Proofs.YtbgngikejgihgaeGreatDoor
open Go Go.RowKit
set_option linter.unusedVariables false

set_option maxHeartbeats 4000000 in
set_option maxRecDepth 100000 in
theorem decPos (a : Nat) (w : World) (ha : a ≤ 9223372036854775807) :
    Calls Tryz.prog 36 #[.int .i64 ((a : Int))] w fun e w' => ∃ v', e = .returned v' ∧ OwB w' w.heap.size v' (bts (Lib.decDigits a)) ∧ Below w.heap.size w w' := by
  obtain ⟨i0, hi, hz0, hz1, hz2⟩ := info_parts Tryz.info8
  have hwr : IntKind.u64.wrap (a : Int) = (a : Int) := by rw [IntKind.wrap_u64]; omega
  have hneg : ¬ (a : Int) < 0 := by omega
  have hdl : (Lib.decDigits a).length ≤ 21 := by
    have := Lib.itoa_length_le (a : Int) (by omega) (by omega)
    rwa [Lib.itoa_nonneg] at this
  have h8 : ∀ k : Int, 0 ≤ k → IntKind.u8.wrap (48 + k % 10) = 48 + k % 10 := fun k hk => wrap_u8 _ (by omega)
  have H8 := hide h8
  have h80 := h8 a (by omega)
  have A1 := hide ((Below.refl w.heap.size w).alloc (Nat.le_refl _) (.cells #[.int .u8 (48 + (a : Int) % 10)] 5))
  have O1 := hide (own_one w (48 + (a : Int) % 10))
  have hbd : bts (Lib.decDigits a) = bts (topD a) ++ [48 + (a : Int) % 10] := by
    rw [topD_one, bts_append]; congr 1
    simp only [bts, List.map_cons, List.map_nil, dig_byte]; simp
  have HBD := hide hbd
  have hbl : (bts (Lib.decDigits a)).length ≤ 21 := by rw [bts_length]; exact hdl
  generalize bts (Lib.decDigits a) = dd at HBD hbl ⊢
  clear h8 hbd hdl
  go_enter Tryz.func36, Tryz.ntmps36
  go_wp2_with fail
  generalize w.alloc (.cells #[.int .u8 (48 + (a : Int) % 10)] 5) = w1 at *
  go_loopw [3, 4] (fun uv ov wr => ∃ (c : Nat) (zs : List Int), uv = .int .u64 c ∧ c ≤ 9223372036854775808 ∧ OwB wr w.heap.size ov zs ∧ 0 < zs.length ∧ dd = bts (topD c) ++ zs ∧ Below w.heap.size w wr) (fun uv _ _ => (intOf uv).toNat)
  case atStart => exact ⟨a, [48 + (a : Int) % 10], rfl, by omega, O1.out, by simp, HBD.out, A1.out⟩
  case round =>
    obtain ⟨c, zs, rfl, hc, hob, h0, hdd, hbw⟩ := hrel
    have HOB := hide hob
    have HBW := hide hbw
    have hsw := hbw.size
    have hzl : zs.length ≤ 21 := by rw [hdd, List.length_append] at hbl; omega
    by_cases hc10 : 10 ≤ c
    · have hci : (10 : Int) ≤ (c : Int) := by omega
      obtain ⟨g, cp, rfl⟩ := ownB_shape hob h0
      have h81 := H8.out ((c : Int) / 10) (by omega)
      have NA := hide (Below.refl w.heap.size wr |>.alloc hsw (.cells #[.int .u8 (48 + (c : Int) / 10 % 10)] 5))
      have O2 := hide (owns_base (own_one wr (48 + (c : Int) / 10 % 10)) hsw)
      have SC := hide (ownB_cells (show OwB (wr.alloc (.cells #[.int .u8 (48 + (c : Int) / 10 % 10)] 5)) w.heap.size (.slice (some ⟨g, 0, none⟩) zs.length cp) zs from World.ownsRow.alloc HOB.out _))
      have HDD := hide (show dd = bts (topD (c / 10)) ++ (48 + (c : Int) / 10 % 10) :: zs from (by
        rw [hdd, topD_step hc10, bts_append, List.append_assoc]; congr 1
        simp only [bts, List.map_cons, List.map_nil, dig_byte]; simp))
      clear hob hbw hdd
      go_wp2_with (at_builtin; refine wpList_append_own _ rfl _ _ 22 rfl w.heap.size 5 i0 (.int .u8 0) 1 1 Tryz.underlying22 hi hz0 hz1 hz2 rfl (by decide) (.slice (some ⟨wr.heap.size, 0, none⟩) 1 1) 1 [.int .u8 (48 + (c : Int) / 10 % 10)] rfl (by exact O2.out) ⟨g, 0, none⟩ zs.length cp (ints .u8 zs) rfl (by rw [ints_length]; omega) (by exact SC.out) (ints_one .u8 zs) (by unfold maxLen; omega) (by omega) (by simp; omega) ?_; intro v2 w2 ho2 hg2 _; refine Hid.out ?_)
      refine Lib.hid ?_
      have O3 := hide (show OwB w2 w.heap.size v2 ((48 + (c : Int) / 10 % 10) :: zs) from (by have h9 := ho2; unfold OwB; rw [List.length_cons, Nat.add_comm]; exact h9))
      have B3 := hide ((HBW.out.trans NA.out).grown hg2 (by simp; omega) (fun k hk => (O2.out.lt k hk).1))
      clear ho2 hg2
      go_wp2
      go_roundw
      case rel => exact ⟨c / 10, _, by first | rfl | go_num | (simp; done), by omega, O3.out, by simp, HDD.out, B3.out⟩
      case measure => simp [intOf]; omega
    · have hci : ¬ (10 : Int) ≤ (c : Int) := by omega
      have hzs : zs = dd := by rw [hdd, topD_end (by omega)]; rfl
      clear hdd
      go_wp2
      go_ret
      exact ⟨_, rfl, by rw [← hzs]; exact HOB.out, HBW.out⟩

set_option maxHeartbeats 4000000 in
set_option maxRecDepth 100000 in
theorem decNeg (a : Nat) (w : World) (ha : 1 ≤ a ∧ a ≤ 9223372036854775808) :
    Calls Tryz.prog 36 #[.int .i64 (-(a : Int))] w fun e w' => ∃ v', e = .returned v' ∧ OwB w' w.heap.size v' (45 :: bts (Lib.decDigits a)) ∧ Below w.heap.size w w' := by
  obtain ⟨i0, hi, hz0, hz1, hz2⟩ := info_parts Tryz.info8
  have hwr : IntKind.u64.wrap (-IntKind.u64.wrap (-(a : Int))) = (a : Int) := by rw [IntKind.wrap_u64, IntKind.wrap_u64]; omega
  have hneg : -(a : Int) < 0 := by omega
  have hda : decide (0 < a) = true := by simp; omega
  have hpa : 0 < a := by omega
  have hdl : (Lib.decDigits a).length ≤ 21 := by
    have := Lib.itoa_length_le (-(a : Int)) (by omega) (by omega)
    rw [Lib.itoa_neg a (by omega), List.length_cons] at this
    omega
  have h8 : ∀ k : Int, 0 ≤ k → IntKind.u8.wrap (48 + k % 10) = 48 + k % 10 := fun k hk => wrap_u8 _ (by omega)
  have H8 := hide h8
  have h80 := h8 a (by omega)
  have A1 := hide ((Below.refl w.heap.size w).alloc (Nat.le_refl _) (.cells #[.int .u8 (48 + (a : Int) % 10)] 5))
  have O1 := hide (own_one w (48 + (a : Int) % 10))
  have hbd : bts (Lib.decDigits a) = bts (topD a) ++ [48 + (a : Int) % 10] := by
    rw [topD_one, bts_append]; congr 1
    simp only [bts, List.map_cons, List.map_nil, dig_byte]; simp
  have HBD := hide hbd
  have hbl : (bts (Lib.decDigits a)).length ≤ 21 := by rw [bts_length]; exact hdl
  generalize bts (Lib.decDigits a) = dd at HBD hbl ⊢
  clear h8 hbd hdl
  go_enter Tryz.func36, Tryz.ntmps36
  go_wp2_with fail
  generalize w.alloc (.cells #[.int .u8 (48 + (a : Int) % 10)] 5) = w1 at *
  generalize IntKind.u64.wrap (-(a : Int)) = uu at *
  go_loopw [3, 4] (fun uv ov wr => ∃ (c : Nat) (zs : List Int), uv = .int .u64 c ∧ c ≤ 9223372036854775808 ∧ OwB wr w.heap.size ov zs ∧ 0 < zs.length ∧ dd = bts (topD c) ++ zs ∧ Below w.heap.size w wr) (fun uv _ _ => (intOf uv).toNat)
  case atStart => exact ⟨a, [48 + (a : Int) % 10], rfl, by omega, O1.out, by simp, HBD.out, A1.out⟩
  case round =>
    obtain ⟨c, zs, rfl, hc, hob, h0, hdd, hbw⟩ := hrel
    have HOB := hide hob
    have HBW := hide hbw
    have hsw := hbw.size
    have hzl : zs.length ≤ 21 := by rw [hdd, List.length_append] at hbl; omega
    by_cases hc10 : 10 ≤ c
    · have hci : (10 : Int) ≤ (c : Int) := by omega
      obtain ⟨g, cp, rfl⟩ := ownB_shape hob h0
      have h81 := H8.out ((c : Int) / 10) (by omega)
      have NA := hide (Below.refl w.heap.size wr |>.alloc hsw (.cells #[.int .u8 (48 + (c : Int) / 10 % 10)] 5))
      have O2 := hide (owns_base (own_one wr (48 + (c : Int) / 10 % 10)) hsw)
      have SC := hide (ownB_cells (show OwB (wr.alloc (.cells #[.int .u8 (48 + (c : Int) / 10 % 10)] 5)) w.heap.size (.slice (some ⟨g, 0, none⟩) zs.length cp) zs from World.ownsRow.alloc HOB.out _))
      have HDD := hide (show dd = bts (topD (c / 10)) ++ (48 + (c : Int) / 10 % 10) :: zs from (by
        rw [hdd, topD_step hc10, bts_append, List.append_assoc]; congr 1
        simp only [bts, List.map_cons, List.map_nil, dig_byte]; simp))
      clear hob hbw hdd
      go_wp2_with (at_builtin; refine wpList_append_own _ rfl _ _ 22 rfl w.heap.size 5 i0 (.int .u8 0) 1 1 Tryz.underlying22 hi hz0 hz1 hz2 rfl (by decide) (.slice (some ⟨wr.heap.size, 0, none⟩) 1 1) 1 [.int .u8 (48 + (c : Int) / 10 % 10)] rfl (by exact O2.out) ⟨g, 0, none⟩ zs.length cp (ints .u8 zs) rfl (by rw [ints_length]; omega) (by exact SC.out) (ints_one .u8 zs) (by unfold maxLen; omega) (by omega) (by simp; omega) ?_; intro v2 w2 ho2 hg2 _; refine Hid.out ?_)
      refine Lib.hid ?_
      have O3 := hide (show OwB w2 w.heap.size v2 ((48 + (c : Int) / 10 % 10) :: zs) from (by have h9 := ho2; unfold OwB; rw [List.length_cons, Nat.add_comm]; exact h9))
      have B3 := hide ((HBW.out.trans NA.out).grown hg2 (by simp; omega) (fun k hk => (O2.out.lt k hk).1))
      clear ho2 hg2
      go_wp2
      go_roundw
      case rel => exact ⟨c / 10, _, by first | rfl | go_num | (simp; done), by omega, O3.out, by simp, HDD.out, B3.out⟩
      case measure => simp [intOf]; omega
    · have hci : ¬ (10 : Int) ≤ (c : Int) := by omega
      have hzs : zs = dd := by rw [hdd, topD_end (by omega)]; rfl
      clear hdd
      obtain ⟨g, cp, rfl⟩ := ownB_shape hob h0
      have NA := hide (Below.refl w.heap.size wr |>.alloc hsw (.cells #[.int .u8 45] 5))
      have O1 := hide (owns_base (own_one wr 45) hsw)
      have SC := hide (ownB_cells (show OwB (wr.alloc (.cells #[.int .u8 45] 5)) w.heap.size (.slice (some ⟨g, 0, none⟩) zs.length cp) zs from World.ownsRow.alloc HOB.out _))
      have HZS := hide hzs
      clear hob hbw hzs
      go_wp2_with (at_builtin; refine wpList_append_own _ rfl _ _ 22 rfl w.heap.size 5 i0 (.int .u8 0) 1 1 Tryz.underlying22 hi hz0 hz1 hz2 rfl (by decide) (.slice (some ⟨wr.heap.size, 0, none⟩) 1 1) 1 [.int .u8 45] rfl (by exact O1.out) ⟨g, 0, none⟩ zs.length cp (ints .u8 zs) rfl (by rw [ints_length]; omega) (by exact SC.out) (ints_one .u8 zs) (by unfold maxLen; omega) (by omega) (by simp; omega) ?_; intro v2 w2 ho2 hg2 _; refine Hid.out ?_)
      refine Lib.hid ?_
      have O2 := hide (show OwB w2 w.heap.size v2 (45 :: zs) from (by have h9 := ho2; unfold OwB; rw [List.length_cons, Nat.add_comm]; exact h9))
      have B2 := hide ((HBW.out.trans NA.out).grown hg2 (by simp; omega) (fun k hk => (O1.out.lt k hk).1))
      clear ho2 hg2
      go_wp2
      go_ret
      exact ⟨_, rfl, by rw [← HZS.out]; exact O2.out, B2.out⟩

theorem decL (v : Int) (w : World) (hv : -9223372036854775808 ≤ v ∧ v ≤ 9223372036854775807) :
    Calls Tryz.prog 36 #[.int .i64 v] w fun e w' => ∃ v', e = .returned v' ∧ OwB w' w.heap.size v' (bts (Lib.itoa v)) ∧ Below w.heap.size w w' := by
  rcases Int.lt_or_le v 0 with h | h
  · obtain ⟨a, rfl⟩ : ∃ a : Nat, v = -(a : Int) := ⟨v.natAbs, by omega⟩
    rw [Lib.itoa_neg a (by omega)]
    exact decNeg a w ⟨by omega, by omega⟩
  · obtain ⟨a, rfl⟩ := Int.eq_ofNat_of_zero_le h
    rw [Lib.itoa_nonneg]
    exact decPos a w (by omega)
end Go.Proofs.YtbgngikejgihgaeGreatDoor
