import Derived.Test.YtbgngikejgihgadDoorPlL
import Derived.Test.YtbgngikejgihgadDoorTTell
import Derived.Test.YtbgngikejgihgadDoorPlV
import Derived.Lib.SliceRun
import Derived.Deep.RegionWith
import Derived.Deep.Cut
namespace Go.Proofs.YtbgngikejgihgadDoor
open Go Go.RowKit
set_option linter.unusedVariables false

set_option maxHeartbeats 1000000 in
set_option maxRecDepth 100000 in
/-- slices.Clone of a row that leads to cells. -/
theorem cloneN (zs : List Int) (b o cap : Nat) (w : World) (hc : ∀ i, i < zs.length → w.cell? ⟨b, o + i, none⟩ = some (.int .i32 (zs.getD i 0))) (hb : b < w.heap.size) (hn : zs.length ≤ 1048576) :
    Calls Tryd.prog 101 #[.slice (some ⟨b, o, none⟩) zs.length cap] w fun e w' => ∃ v', e = .returned v' ∧ own32 w' w.heap.size v' zs ∧ Below w.heap.size w w' := by
  obtain ⟨i0, hi, hz0, hz1, hz2⟩ := info_parts Tryd.info32P
  have hown0 : (w.alloc (.cells #[] 21)).ownsRow w.heap.size 21 1 (.slice (some ⟨w.heap.size, 0, none⟩) 0 0) 0 [] := by
    have := World.ownsRow_made (base := w.heap.size) (e := 21) (size := 1) w #[] 0 (by simp) (Nat.zero_le _) rfl
    simpa using this
  have H0 := hide hown0
  have HB1 := hide ((Below.refl w.heap.size w).alloc (Nat.le_refl _) (.cells #[] 21))
  have HC := hide (show ∀ j u, (ints .i32 zs)[j]? = some u → (w.alloc (.cells #[] 21)).cell? ((⟨b, o, none⟩ : Addr).add j) = some u from (by
    have h9 := cut_cells (o := 0) (l := zs.length) (fun i hi => (HB1.out.cell (p := ⟨b, o + i, none⟩) hb).trans (hc i hi))
    simpa using h9))
  have hq := fun w : World => Lib.run_eql_slice_nil (P := Tryd.prog) w 22 21 (some ⟨b, o, none⟩) zs.length cap 0 0 Tryd.underlying22
  simp only [Option.isNone_some] at hq
  clear hown0 hc
  go_enter Tryd.func101, Tryd.ntmps101
  go_wp2_with (at_builtin; refine wpList_append_own _ rfl _ _ 22 rfl w.heap.size 21 i0 (.int .i32 0) 1 4 Tryd.underlying22 hi hz0 hz1 hz2 rfl (by decide) _ 0 [] rfl H0.out ⟨b, o, none⟩ zs.length cap (ints .i32 zs) rfl (by rw [ints_length, Nat.mul_one]) HC.out (ints_one _ _) (by unfold maxLen; omega) (by omega) HB1.out.size ?_; intro v3 w3 ho3 hg3 _)
  rw [Nat.zero_add, List.nil_append] at ho3
  have HO3 := hide ho3
  have HB3 := hide (HB1.out.grown hg3 HB1.out.size (fun q hq => by cases hq; exact Nat.le_refl _))
  clear ho3 hg3
  go_wp2
  go_ret
  exact ⟨_, rfl, HO3.out, HB3.out⟩

set_option maxHeartbeats 2000000 in
set_option maxRecDepth 100000 in
theorem tellPN (zs : List Int) (T : AT) (u : Option Addr) (bs : List Nat) (base c b : Nat) (w : World) (hc : ∀ i, i < zs.length → w.cell? ⟨b, 0 + i, none⟩ = some (.int .i32 (zs.getD i 0))) (hb : b < w.heap.size) (hn : zs.length ≤ 1048576) (hT : Lies w base T u bs) (hok : T.ok) (hk : w.heap[c]? = some (.cells #[.slice (some ⟨b, 0, none⟩) zs.length zs.length, .pointer u] 152 (0, 0))) :
    Calls Tryd.prog 58 #[.pointer (some ⟨c, 0, none⟩)] w fun e w' => ∃ vs vi, e = .returned (.agg #[vs, vi]) ∧ own32 w' w.heap.size vs zs ∧ OwI w' w.heap.size vi (T.told 0) ∧ Below w.heap.size w w' := by
  have hcl : c < w.heap.size := (Array.getElem?_eq_some_iff.1 hk).1
  have B0 := hide ((Below.refl w.heap.size w).alloc (Nat.le_refl _) (.cells #[.slice none 0 0, .slice none 0 0] 39))
  have HK0 := hide (show (w.alloc (.cells #[.slice none 0 0, .slice none 0 0] 39)).heap[w.heap.size]? = some (.cells #[.slice none 0 0, .slice none 0 0] 39 (0, 0)) from heap_alloc_new _ _)
  have hs0 : w.heap.size < (w.alloc (.cells #[.slice none 0 0, .slice none 0 0] 39)).heap.size := by simp
  have hk0 := (B0.out.block c hcl).trans hk
  have c0 : (w.alloc (.cells #[.slice none 0 0, .slice none 0 0] 39)).cell? ⟨c, 0, none⟩ = some (.slice (some ⟨b, 0, none⟩) zs.length zs.length) := by rw [cell_of_row _ _ 0 _ _ _ hk0]; rfl
  have c1 : (w.alloc (.cells #[.slice none 0 0, .slice none 0 0] 39)).cell? ⟨c, 1, none⟩ = some (.pointer u) := by rw [cell_of_row _ _ 1 _ _ _ hk0]; rfl
  have CL := hide (fun W (hc : ∀ i, i < zs.length → W.cell? ⟨b, 0 + i, none⟩ = some (.int .i32 (zs.getD i 0))) (hb : b < W.heap.size) => cloneN zs b 0 zs.length W hc hb hn)
  have SC := hide (fun i hi => (B0.out.cell (p := ⟨b, 0 + i, none⟩) hb).trans (hc i hi))
  have hbl : b < (w.alloc (.cells #[.slice none 0 0, .slice none 0 0] 39)).heap.size := by omega
  have hcl0 : c < (w.alloc (.cells #[.slice none 0 0, .slice none 0 0] 39)).heap.size := by omega
  have L0 := hide (hT.below B0.out (Nat.le_refl _))
  have TL := hide (fun W (h : Lies W base T u bs) => tellN T u bs base W h hok)
  have FR := hide (fun (W W' : World) (h : Lies W base T u bs) (e : W'.heap = W.heap) => h.frame (w' := W') (fun q hq => by rw [e]))
  clear hk hk0 hT hok hc
  go_enter Tryd.func58, Tryd.ntmps58
  go_upto_region 1 with fail
  generalize w.alloc (.cells #[.slice none 0 0, .slice none 0 0] 39) = w0 at *
  have e00 : w0.cell? ⟨w.heap.size, 0, none⟩ = some (.slice none 0 0) := by rw [cell_of_row w0 _ 0 _ _ _ HK0.out]; rfl
  go_region_with (first
    | (go_at_call 101; refine (CL.out _ (by exact SC.out) (by exact hbl)).mono ?_; rintro e w1 ⟨vs, rfl, ho1, hb1⟩; obtain ⟨as1, cs1, rfl⟩ := own32_val ho1; have C1 : Below w0.heap.size w0 w1 := ⟨hb1.os, hb1.tape, hb1.output, hb1.size, hb1.block⟩; have BB1 := hide C1; have O1 := hide (show own32 w1 w0.heap.size (.slice as1 zs.length cs1) zs from ho1); have L1 := hide (L0.out.below C1 (Nat.le_refl _)); have d1 : w1.cell? ⟨c, 1, none⟩ = some (.pointer u) := (C1.cell (p := ⟨c, 1, none⟩) hcl0).trans c1; clear ho1 hb1 C1)
    | (go_at_call 78; refine (TL.out _ (by exact FR.out _ _ L1.out rfl)).mono ?_; rintro e w2 ⟨vi, rfl, ho2, hb2⟩; obtain ⟨ai1, ci1, rfl⟩ := ownI_val ho2; have C2 : Below w1.heap.size w1 w2 := ⟨hb2.os, hb2.tape, hb2.output, hb2.size, hb2.block⟩; have BB2 := hide (BB1.out.trans (C2.mono BB1.out.size)); have O1' := hide (owns_below O1.out C2 (Nat.le_refl _)); have O2 := hide (show OwI w2 w1.heap.size (.slice ai1 (T.told 0).length ci1) (T.told 0) from ho2); have s12 := C2.size; have s01 := BB1.out.size; have K2 := (BB2.out.block w.heap.size hs0).trans HK0.out; have g0 : w2.cell? ⟨w.heap.size, 0, none⟩ = some (.slice none 0 0) := (by rw [cell_of_row w2 _ 0 _ _ _ K2]; rfl); have g1 : w2.cell? ⟨w.heap.size, 1, none⟩ = some (.slice none 0 0) := (by rw [cell_of_row w2 _ 1 _ _ _ K2]; rfl); have f0 := frozen_of_row w2 w.heap.size 0 _ _ K2; have f1 := frozen_of_row w2 w.heap.size 1 _ _ K2; clear ho2 hb2 C2 K2))
  all_goals
    go_wp2
    refine bodyPost_ret (v := .agg #[.slice as1 zs.length cs1, .slice ai1 (T.told 0).length ci1]) (by simp [results, Tryd.results58, go_sem, g0, g1]) rfl ⟨_, _, rfl, ?_, ?_, ?_⟩
    · exact owns_of_block (owns_base O1'.out (by omega)) (fun k hk => by have h1 := O1'.out.lt k hk; rw [Below.heap_setCell _ _ _ _ (by simp; omega), Below.heap_setCell _ _ _ _ (by simp; omega)]; try rfl)
    · exact owns_of_block (owns_base O2.out (by omega)) (fun k hk => by have h1 := O2.out.lt k hk; rw [Below.heap_setCell _ _ _ _ (by simp; omega), Below.heap_setCell _ _ _ _ (by simp; omega)]; try rfl)
    · exact ((⟨(B0.out.trans (BB2.out.mono (by omega))).os, (B0.out.trans (BB2.out.mono (by omega))).tape, (B0.out.trans (BB2.out.mono (by omega))).output, (B0.out.trans (BB2.out.mono (by omega))).size, (B0.out.trans (BB2.out.mono (by omega))).block⟩ : Below w.heap.size w _).setCell (Nat.le_refl _) _).setCell (Nat.le_refl _) _
end Go.Proofs.YtbgngikejgihgadDoor
