import Derived.Test.YtbgngikejgihgaeDoorKBy
import Derived.Test.YtbgngikejgihgaeDoorNuB
import Derived.Test.YtbgngikejgihgaeDoorExLay
import Derived.Lib.AppendIntMem
import Derived.Lib.AppendStr
import Derived.Lib.ItoaLen
import Derived.Lib.OthersKept
import Derived.WalkLawsBesides
namespace Go.Proofs.YtbgngikejgihgaeDoor
open Go Go.RowKit
set_option linter.unusedVariables false

abbrev Tab (B : Nat) (w : World) : Prop := Lib.TabBelow Tryd.prog B w "internal/strconv.uint64pow10" .u64 Lib.pow10Tab

theorem aiL (B n : Nat) (i : Int) (h0 : -9223372036854775808 ≤ i) (h1 : i ≤ 9223372036854775807) (sv : Value) (xs : List Value) (w : World) (hown : w.ownsRow B 5 1 sv n xs) (hB : B ≤ w.heap.size) (hlim : n + 21 ≤ 140737488355328) (ht : Tab B w) :
    Calls Tryd.prog 102 #[sv, .int .i64 i, .int .i64 10] w fun e w' => ∃ v', e = .returned v' ∧ w'.ownsRow B 5 1 v' (n + (Lib.itoa i).length) (xs ++ Lib.byteCells (Lib.itoa i)) ∧ Below B w w' ∧ Lib.OthersKept 5 none w w' :=
  Any.strconv_AppendInt_10 Tryd.aiLays B n i h0 h1 sv xs w hown hB hlim ht

set_option maxHeartbeats 4000000 in
set_option maxRecDepth 100000 in
theorem appendNumbersL (B n nb : Nat) (zs : List Int) (sv : Value) (xs : List Value) (w : World) (hown : w.ownsRow B 5 1 sv n xs) (hB : B ≤ w.heap.size) (hn : n ≤ 1000000000000) (hz : zs.length ≤ 16) (hr : ∀ z ∈ zs, -9223372036854775808 ≤ z ∧ z ≤ 9223372036854775807) (hk : w.heap[nb]? = some (.cells (ints .i64 zs).toArray 3 (0, 0))) (ht : Tab B w) :
    Calls Tryd.prog 76 #[sv, .slice (some ⟨nb, 0, none⟩) zs.length zs.length] w fun e w' => ∃ v', e = .returned v' ∧ w'.ownsRow B 5 1 v' (n + (numB zs).length) (xs ++ Lib.byteCells (numB zs)) ∧ Below B w w' ∧ K8 w w' := by
  obtain ⟨i0, hi, hz0, hz1, hz2⟩ := info_parts Tryd.info8
  have HOWN := hide hown
  have HK := hide hk
  have HT := hide ht
  have HR := hide hr
  have HLE := hide (show ∀ k, k ≤ zs.length → (numB (zs.take k)).length ≤ 352 from fun k hk => by
    have := numB_length (zs.take k) (fun z hz => hr z (List.mem_of_mem_take hz))
    have := List.length_take_le k zs
    omega)
  obtain ⟨ao, ml, cp, hsv⟩ : ∃ ao m c, sv = .slice ao m c := by
    rcases hown.2 with ⟨rfl, _⟩ | ⟨g, cap, cur, rfl, _⟩ <;> exact ⟨_, _, _, rfl⟩
  subst hsv
  have HT0 := hide (show numB (zs.take 0) = [] from rfl)
  have HTN := hide (show zs.take zs.length = zs from List.take_length)
  generalize hN : zs.length = m at *
  have HN := hide hN
  clear hown hk ht hr hN
  go_enter Tryd.func76, Tryd.ntmps76
  go_wp2_with fail
  go_loopw [0, 9] (fun bv iv wr => ∃ k : Nat, k ≤ m ∧ iv = .int .i64 k ∧ wr.ownsRow B 5 1 bv (n + (numB (zs.take k)).length) (xs ++ Lib.byteCells (numB (zs.take k))) ∧ Below B w wr ∧ K8 w wr) (fun _ iv _ => m - (intOf iv).toNat)
  case atStart => exact ⟨0, Nat.zero_le _, rfl, by rw [HT0.out]; simpa [Lib.byteCells] using HOWN.out, Below.refl _ _, K8.refl _⟩
  case round =>
    obtain ⟨k, hk, rfl, hob, hbw, hk8⟩ := hrel
    have HOB := hide hob
    have HBW := hide hbw
    have H8 := hide hk8
    have hsw := hbw.size
    obtain ⟨a1, m1, c1, rfl⟩ : ∃ ao m c, u0 = .slice ao m c := by
      rcases hob.2 with ⟨rfl, _⟩ | ⟨g, cap, cur, rfl, _⟩ <;> exact ⟨_, _, _, rfl⟩
    by_cases hkm : k < m
    · have hkm' : (k : Int) < (m : Int) := by omega
      obtain ⟨z, hzk⟩ : ∃ z, zs[k]? = some z := ⟨_, List.getElem?_eq_getElem (by rw [HN.out]; exact hkm)⟩
      have hzr := HR.out z (List.mem_of_getElem? hzk)
      have KW := H8.out nb _ 3 _ (by decide) HK.out
      have cz : wr.cell? ⟨nb, k, none⟩ = some (.int .i64 z) := by
        rw [cell_of_row wr nb k _ _ _ KW]
        simp [ints, hzk]
      have hnl : nb < wr.heap.size := (Array.getElem?_eq_some_iff.1 KW).1
      have htk : zs.take (k + 1) = zs.take k ++ [z] := by
        rw [List.take_succ_eq_append_getElem (by rw [HN.out]; exact hkm)]
        rw [List.getElem?_eq_getElem (by rw [HN.out]; exact hkm)] at hzk
        rw [Option.some.inj hzk]
      have hle := HLE.out k hk
      have HTK := hide htk
      have T1 := hide (HT.out.on HBW.out)
      clear hob hbw hk8 hzk htk KW
      by_cases hk0 : k = 0
      · subst hk0
        have HE := hide (show numB (zs.take (0 + 1)) = Lib.itoa z from by rw [HTK.out]; simp [numB])
        have O0 := hide (show wr.ownsRow B 5 1 (.slice a1 m1 c1) n xs from by have h9 := HOB.out; rw [HT0.out] at h9; simpa [Lib.byteCells] using h9)
        clear HOB
        go_wp2_with fail
        refine (aiL B n z hzr.1 hzr.2 _ xs wr O0.out (by omega) (by omega) T1.out).mono ?_
        rintro e w1 ⟨v1, rfl, ho1, hb1, hok1⟩
        have B1 := hide (HBW.out.trans hb1)
        have K1 := hide (H8.out.trans (K8.of hok1))
        have O1 := hide ho1
        clear ho1 hb1 hok1
        go_wp2
        go_roundw
        case rel => exact ⟨1, by omega, by go_num, by rw [HE.out]; exact O1.out, B1.out, K1.out⟩
        case measure => simp [intOf]; omega
      · have hkg : (0 : Int) < (k : Int) := by omega
        have hne : zs.take k ≠ [] := by
          intro e
          have := congrArg List.length e
          rw [List.length_take, HN.out] at this
          simp at this; omega
        have HE := hide (show numB (zs.take (k + 1)) = numB (zs.take k) ++ (32 :: Lib.itoa z) from by rw [HTK.out]; exact numB_snoc hne z)
        clear hne
        generalize numB (zs.take k) = nk at *
        have NC := hide (newcells wr 5 [.int .u8 32])
        go_wp2_with (at_builtin; refine wpList_append_own _ rfl _ _ 44 rfl B 5 i0 (.int .u8 0) 1 1 Tryd.underlying44 hi hz0 hz1 hz2 rfl (by decide) _ (n + nk.length) _ rfl (by exact World.ownsRow.alloc HOB.out _) ⟨wr.heap.size, 0, none⟩ 1 1 [.int .u8 32] rfl rfl (by exact NC.out) (by intro u hu; simp at hu; subst hu; rfl) (by unfold maxLen; omega) (by omega) (by simp; omega) ?_; intro v2 w2 ho2 hg2 _; refine Hid.out ?_)
        refine Lib.hid ?_
        have A1 := hide ((Below.refl B wr).alloc (by omega) (.cells #[.int .u8 32] 5))
        have G2 := hide ((Below.refl B _).grown hg2 (by simp; omega) (fun k hk => (HOB.out.lt k hk).1))
        have B2 := hide ((HBW.out.trans A1.out).trans G2.out)
        have K2 := hide ((H8.out.trans (K8.alloc wr (.cells #[.int .u8 32] 5))).trans (K8.grown (World.ownsRow.alloc HOB.out (.cells #[.int .u8 32] 5)) hg2))
        have T2 := hide ((T1.out.on A1.out).on G2.out)
        have O2 := hide ho2
        have s2 := B2.out.size
        clear ho2 hg2 HOB A1 G2 NC
        go_wp2_with fail
        refine (aiL B (n + nk.length + 1) z hzr.1 hzr.2 v2 _ w2 O2.out (by omega) (by omega) T2.out).mono ?_
        rintro e w3 ⟨v3, rfl, ho3, hb3, hok3⟩
        have B3 := hide (B2.out.trans hb3)
        have K3 := hide (K2.out.trans (K8.of hok3))
        have O3 := hide ho3
        clear ho3 hb3 hok3
        go_wp2
        go_roundw
        case rel =>
          refine ⟨k + 1, by omega, by go_num, ?_, B3.out, K3.out⟩
          rw [HE.out]
          have h9 := O3.out
          simpa [byteCells_append, Lib.byteCells, Nat.add_assoc, Nat.add_comm 1] using h9
        case measure => simp [intOf]; omega
    · obtain rfl : m = k := by omega
      have hge : ¬ (m : Int) < (m : Int) := by omega
      rw [HTN.out] at HOB
      clear hob hbw hk8
      go_wp2
      go_ret
      exact ⟨_, rfl, HOB.out, HBW.out, H8.out⟩
end Go.Proofs.YtbgngikejgihgaeDoor
