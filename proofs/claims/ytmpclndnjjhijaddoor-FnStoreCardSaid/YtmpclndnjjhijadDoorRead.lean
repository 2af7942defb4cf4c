import Derived.Test.YtmpclndnjjhijadDoorProg
import Derived.Test.YtmpclndnjjhijadDoorBase
import Derived.Test.YtmpclndnjjhijadDoorSpan
import Derived.Test.YtmpclndnjjhijadDoorBreaks
import Derived.WalkKit
import Derived.WalkLawsBesides
import Derived.Laws.AppendOwnNone
namespace Go.Proofs.YtmpclndnjjhijadDoor
open Go Go.RowKit
set_option linter.unusedVariables false

theorem Tryd.infoR : (Tryd.prog.info? 21).map (fun i => (i.zero, i.size, i.bytes)) = some (some (.int .i32 0), 1, 4) := by kernel_rfl

set_option maxHeartbeats 1000000 in
set_option maxRecDepth 100000 in
theorem readSpan_ok (zs : List Int) (b off cap : Nat) (o l : Nat) (w : World) (hc : ∀ i, i < zs.length → w.cell? ⟨b, off + i, none⟩ = some (.int .i32 (zs.getD i 0))) (hcp : zs.length ≤ cap) (hcm : cap ≤ maxLen) (hbB : b < w.heap.size) (hol : o + l ≤ zs.length) (hn : zs.length ≤ 1048576) :
    Calls Tryd.prog 22 #[.slice (some ⟨b, off, none⟩) zs.length cap, .agg #[.int .i64 o, .int .i64 l]] w fun e w' => ∃ v', e = .returned (.tuple #[v', .nilIface]) ∧ w'.ownsRow w.heap.size 21 1 v' l (ints .i32 ((zs.drop o).take l)) ∧ Below w.heap.size w w' := by
  obtain ⟨i0, hi, hz0, hz1, hz2⟩ := info_parts Tryd.infoR
  have HK := hide (check_ok o l zs.length (w.alloc (.cells #[.int .i64 o, .int .i64 l] 33)) (by omega) (by omega) (by omega) (by omega) (by omega))
  have HC := hide hc
  clear hc
  go_enter Tryd.func22, Tryd.ntmps22
  go_wp2_with fail
  refine HK.out.mono ?_
  rintro e w1 ⟨rfl, hb⟩
  have hc0 : w1.cell? ⟨w.heap.size, 0, none⟩ = some (.int .i64 o) := by rw [hb.cell (p := ⟨w.heap.size, 0, none⟩) (by simp)]; simp
  have hc1 : w1.cell? ⟨w.heap.size, 1, none⟩ = some (.int .i64 l) := by rw [hb.cell (p := ⟨w.heap.size, 1, none⟩) (by simp)]; simp
  have HB := hide (((Below.refl w.heap.size w).alloc (Nat.le_refl _) (.cells #[.int .i64 o, .int .i64 l] 33)).trans (hb.mono (by simp)))
  clear hb HK
  have hs := HB.out.size
  have EL := hide (show o + l - o = l by omega)
  by_cases hco : cap = o
  · obtain rfl : l = 0 := by omega
    have HC1 := hide (show ∀ j u, (ints .i32 ((zs.drop o).take 0))[j]? = some u → w1.cell? ((⟨b, off, none⟩ : Addr).add j) = some u by intro j u h; simp [ints] at h)
    go_wp2_with (at_builtin; refine wpList_append_own _ rfl _ _ 25 rfl w.heap.size 21 i0 (.int .i32 0) 1 4 Tryd.underlying25 hi hz0 hz1 hz2 rfl (by decide) _ 0 [] rfl (World.ownsRow_nil _ _ _ _) ⟨b, off, none⟩ 0 _ (ints .i32 ((zs.drop o).take 0)) rfl (cut_length hol) HC1.out (ints_one _ _) (by unfold maxLen; omega) (by omega) hs ?_; intro v' w2 hown' hgrow _)
    rw [List.nil_append] at hown'
    have HO := hide hown'
    have HB2 := hide (HB.out.grown hgrow hs (fun q hq => by cases hq))
    clear hown' hgrow
    go_wp2
    go_ret2
    exact ⟨_, rfl, HO.out, HB2.out⟩
  · have HC1 := hide (cut_cells (o := o) (l := l) (fun i hi' => (HB.out.cell (p := ⟨b, off + i, none⟩) hbB).trans (HC.out i hi')))
    go_wp2_with (at_builtin; refine wpList_append_own _ rfl _ _ 25 rfl w.heap.size 21 i0 (.int .i32 0) 1 4 Tryd.underlying25 hi hz0 hz1 hz2 rfl (by decide) _ 0 [] rfl (World.ownsRow_nil _ _ _ _) ⟨b, off + o, none⟩ (o + l - o) (cap - o) (ints .i32 ((zs.drop o).take l)) rfl (by rw [EL.out]; exact cut_length hol) HC1.out (ints_one _ _) (by unfold maxLen; omega) (by omega) hs ?_; intro v' w2 hown' hgrow _)
    rw [EL.out, Nat.zero_add, List.nil_append] at hown'
    have HO := hide hown'
    have HB2 := hide (HB.out.grown hgrow hs (fun q hq => by cases hq))
    clear hown' hgrow
    go_wp2
    go_ret2
    exact ⟨_, rfl, HO.out, HB2.out⟩

def msgRead : ByteArray := ⟨#[114, 101, 97, 100, 105, 110, 103, 32, 97, 32, 115, 112, 97, 110]⟩

set_option maxHeartbeats 1000000 in
set_option maxRecDepth 100000 in
theorem readSpan_bad (b off cap n : Nat) (o l : Int) (w : World) (hol : ¬ (0 ≤ o ∧ o ≤ n ∧ 0 ≤ l ∧ l ≤ n - o)) (hn : n ≤ 1048576) :
    Calls Tryd.prog 22 #[.slice (some ⟨b, off, none⟩) n cap, .agg #[.int .i64 o, .int .i64 l]] w fun e w' => e = .returned (.tuple #[.slice none 0 0, .iface 62 (.agg #[.string msgRead, .iface 64 (.int .i64 2)])]) ∧ Below w.heap.size w w' := by
  have HK := hide (check_bad o l n (w.alloc (.cells #[.int .i64 o, .int .i64 l] 33)) hol (by omega) (by omega))
  clear hol
  go_enter Tryd.func22, Tryd.ntmps22
  go_wp2_with fail
  refine HK.out.mono ?_
  rintro e w1 ⟨rfl, hb⟩
  have HB := hide (((Below.refl w.heap.size w).alloc (Nat.le_refl _) (.cells #[.int .i64 o, .int .i64 l] 33)).trans (hb.mono (by simp)))
  clear hb HK
  go_wp2
  go_ret2
  exact ⟨rfl, HB.out⟩

set_option maxHeartbeats 1000000 in
set_option maxRecDepth 100000 in
theorem implRead_ok (zs : List Int) (b off cap : Nat) (o l : Nat) (w : World) (hc : ∀ i, i < zs.length → w.cell? ⟨b, off + i, none⟩ = some (.int .i32 (zs.getD i 0))) (hcp : zs.length ≤ cap) (hcm : cap ≤ maxLen) (hbB : b < w.heap.size) (hol : o + l ≤ zs.length) (hn : zs.length ≤ 1048576) :
    Calls Tryd.prog 10 #[.slice (some ⟨b, off, none⟩) zs.length cap, .agg #[.int .i64 o, .int .i64 l]] w fun e w' => ∃ v', e = .returned (.tuple #[v', .int .i64 (brk ((zs.drop o).take l)), .int .i64 0]) ∧ w'.ownsRow w.heap.size 21 1 v' l (ints .i32 ((zs.drop o).take l)) ∧ Below w.heap.size w w' := by
  have hlen : ((zs.drop o).take l).length ≤ 1048576 := by simp; omega
  have HK := hide (readSpan_ok zs b off cap o l (w.alloc (.cells #[.int .i64 o, .int .i64 l] 33)) (fun i hi => by rw [World.cell?_alloc_lt _ _ ⟨b, off + i, none⟩ hbB]; exact hc i hi) hcp hcm (by simp; omega) hol hn)
  clear hc
  go_enter Tryd.func10, Tryd.ntmps10
  go_wp2_with fail
  refine HK.out.mono ?_
  rintro e w1 ⟨v', rfl, ho, hb⟩
  have HB := hide (((Below.refl w.heap.size w).alloc (Nat.le_refl _) (.cells #[.int .i64 o, .int .i64 l] 33)).trans (hb.mono (by simp)))
  have HO := hide (owns_base ho (base' := w.heap.size) (by simp))
  clear hb HK ho
  go_wp2_with fail
  refine (implBreaks _ _ _ (Rd.of_owns HO.out) (by omega)).mono ?_
  rintro e w2 ⟨rfl, rfl⟩
  go_wp2
  go_ret3
  exact ⟨_, rfl, HO.out, HB.out⟩

set_option maxHeartbeats 1000000 in
set_option maxRecDepth 100000 in
theorem implRead_bad (b off cap n : Nat) (o l : Int) (w : World) (hg : w.cell? ⟨0, 0, none⟩ = some (.iface 96 (.agg #[.pointer (some ⟨2, 43, none⟩)]))) (hol : ¬ (0 ≤ o ∧ o ≤ n ∧ 0 ≤ l ∧ l ≤ n - o)) (hn : n ≤ 1048576) :
    Calls Tryd.prog 10 #[.slice (some ⟨b, off, none⟩) n cap, .agg #[.int .i64 o, .int .i64 l]] w fun e w' => e = .returned (.tuple #[.slice none 0 0, .int .i64 0, .int .i64 2]) ∧ Below w.heap.size w w' := by
  have hlt : 0 < w.heap.size := World.block_lt_of_cell? w _ hg
  have HK := hide (readSpan_bad b off cap n o l (w.alloc (.cells #[.int .i64 o, .int .i64 l] 33)) hol (by omega))
  have HG := hide hg
  clear hol hg
  go_enter Tryd.func10, Tryd.ntmps10
  go_wp2_with fail
  refine HK.out.mono ?_
  rintro e w1 ⟨rfl, hb⟩
  have HB := hide (((Below.refl w.heap.size w).alloc (Nat.le_refl _) (.cells #[.int .i64 o, .int .i64 l] 33)).trans (hb.mono (by simp)))
  clear hb HK
  go_wp2_with fail
  refine (codeOf msgRead 2 _ ((HB.out.cell (p := ⟨0, 0, none⟩) hlt).trans HG.out)).mono ?_
  rintro e w2 ⟨rfl, hb⟩
  have HB2 := hide (HB.out.trans (hb.mono HB.out.size))
  clear hb HB
  go_wp2
  go_ret3
  exact ⟨rfl, HB2.out⟩
end Go.Proofs.YtmpclndnjjhijadDoor
