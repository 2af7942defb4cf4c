import Derived.Test.YtmpclndnjjhijaaDoorProg
import Derived.Test.YtmpclndnjjhijaaDoorBase
import Derived.Test.YtmpclndnjjhijaaDoorBreaks
import Derived.WalkKit
import Derived.WalkLawsBesides
namespace Go.Proofs.YtmpclndnjjhijaaDoor
open Go Go.RowKit
set_option linter.unusedVariables false

theorem Tryd.infoS : (Tryd.prog.info? 21).map (fun i => (i.zero, i.size, i.bytes)) = some (some (.int .i32 0), 1, 4) := by kernel_rfl

set_option maxHeartbeats 1000000 in
set_option maxRecDepth 100000 in
theorem specRead_bad (b off cap n : Nat) (o l : Int) (w : World) (hol : ¬ (0 ≤ o ∧ o ≤ n ∧ 0 ≤ l ∧ l ≤ n - o)) (hn : n ≤ 1048576) :
    Calls Tryd.prog 5 #[.slice (some ⟨b, off, none⟩) n cap, .agg #[.int .i64 o, .int .i64 l]] w fun e w' => e = .returned (.tuple #[.slice none 0 0, .int .i64 0, .int .i64 2]) ∧ Below w.heap.size w w' := by
  by_cases h0 : o < 0
  · clear hol
    go_enter Tryd.func5, Tryd.ntmps5
    go_wp2
    go_ret3
    exact ⟨rfl, (Below.refl _ _).alloc (Nat.le_refl _) _⟩
  by_cases h1 : l < 0
  · clear hol
    go_enter Tryd.func5, Tryd.ntmps5
    go_wp2
    go_ret3
    exact ⟨rfl, (Below.refl _ _).alloc (Nat.le_refl _) _⟩
  by_cases h2 : (n : Int) < o
  · clear hol
    go_enter Tryd.func5, Tryd.ntmps5
    go_wp2
    go_ret3
    exact ⟨rfl, (Below.refl _ _).alloc (Nat.le_refl _) _⟩
  · have h3 : (n : Int) - o < l := by omega
    clear hol
    go_enter Tryd.func5, Tryd.ntmps5
    go_wp2
    go_ret3
    exact ⟨rfl, (Below.refl _ _).alloc (Nat.le_refl _) _⟩

set_option maxHeartbeats 1000000 in
set_option maxRecDepth 100000 in
theorem specRead_ok (zs : List Int) (b off cap : Nat) (o l : Nat) (w : World) (hc : ∀ i, i < zs.length → w.cell? ⟨b, off + i, none⟩ = some (.int .i32 (zs.getD i 0))) (hcp : zs.length ≤ cap) (hcm : cap ≤ maxLen) (hbB : b < w.heap.size) (hol : o + l ≤ zs.length) (hn : zs.length ≤ 1048576) :
    Calls Tryd.prog 5 #[.slice (some ⟨b, off, none⟩) zs.length cap, .agg #[.int .i64 o, .int .i64 l]] w fun e w' => ∃ v', e = .returned (.tuple #[v', .int .i64 (brk ((zs.drop o).take l)), .int .i64 0]) ∧ w'.ownsRow w.heap.size 21 1 v' l (ints .i32 ((zs.drop o).take l)) ∧ Below w.heap.size w w' := by
  obtain ⟨i0, hi, hz0, hz1, hz2⟩ := info_parts Tryd.infoS
  have hlen : ((zs.drop o).take l).length ≤ 1048576 := by simp; omega
  have g0 : ¬ (o : Int) < 0 := by omega
  have g1 : ¬ (l : Int) < 0 := by omega
  have g2 : ¬ (zs.length : Int) < (o : Int) := by omega
  have g3 : ¬ (zs.length : Int) - (o : Int) < (l : Int) := by omega
  have EL := hide (show o + l - o = l by omega)
  have HC1 := hide (fun (W : World) (hW : ∀ i, W.cell? ⟨b, off + i, none⟩ = w.cell? ⟨b, off + i, none⟩) => cut_cells (w := W) (o := o) (l := l) (fun i hi' => (show W.cell? ⟨b, off + i, none⟩ = w.cell? ⟨b, off + i, none⟩ from hW i).trans (hc i hi')))
  clear hc
  have hs : w.heap.size ≤ w.heap.size + 1 + 1 := by omega
  have hown0 : ((w.alloc (.cells #[.int .i64 o, .int .i64 l] 28)).alloc (.cells #[] 21)).ownsRow w.heap.size 21 1 (.slice (some ⟨w.heap.size + 1, 0, none⟩) 0 0) 0 [] := by
    have := World.ownsRow_made (base := w.heap.size) (e := 21) (size := 1) (w.alloc (.cells #[.int .i64 o, .int .i64 l] 28)) #[] 0 (by simp) (Nat.zero_le _) rfl
    simpa using this
  have H0 := hide hown0
  clear hown0
  by_cases hco : cap = o
  · obtain rfl : l = 0 := by omega
    go_enter Tryd.func5, Tryd.ntmps5
    go_wp2_with (at_builtin; refine wpList_append_own _ rfl _ _ 22 rfl w.heap.size 21 i0 (.int .i32 0) 1 4 Tryd.underlying22 hi hz0 hz1 hz2 rfl (by decide) _ 0 [] rfl H0.out ⟨b, off, none⟩ 0 _ (ints .i32 ((zs.drop o).take 0)) rfl (cut_length hol) (by intro j u h; simp [ints] at h) (ints_one _ _) (by unfold maxLen; omega) (by omega) (by simp; omega) ?_; intro v' w2 hown' hgrow _)
    rw [List.nil_append] at hown'
    have HO := hide hown'
    have HB2 := hide ((((Below.refl w.heap.size w).alloc (Nat.le_refl _) _).alloc (by simp) _).grown hgrow (by simp; omega) (fun q hq => by cases hq; simp))
    clear hown' hgrow
    go_wp2_with fail
    refine (specBreaks _ _ _ (Rd.of_owns HO.out) (by omega)).mono ?_
    rintro e w2 ⟨rfl, rfl⟩
    go_wp2
    go_ret3
    exact ⟨_, rfl, HO.out, HB2.out⟩
  · have HC2 := hide (HC1.out ((w.alloc (.cells #[.int .i64 o, .int .i64 l] 28)).alloc (.cells #[] 21)) (fun i => by rw [World.cell?_alloc_lt _ _ ⟨b, off + i, none⟩ (by simp; omega), World.cell?_alloc_lt _ _ ⟨b, off + i, none⟩ hbB]))
    clear HC1
    go_enter Tryd.func5, Tryd.ntmps5
    go_wp2_with (at_builtin; refine wpList_append_own _ rfl _ _ 22 rfl w.heap.size 21 i0 (.int .i32 0) 1 4 Tryd.underlying22 hi hz0 hz1 hz2 rfl (by decide) _ 0 [] rfl H0.out ⟨b, off + o, none⟩ (o + l - o) (cap - o) (ints .i32 ((zs.drop o).take l)) rfl (by rw [EL.out]; exact cut_length hol) HC2.out (ints_one _ _) (by unfold maxLen; omega) (by omega) (by simp; omega) ?_; intro v' w2 hown' hgrow _)
    rw [EL.out, Nat.zero_add, List.nil_append] at hown'
    have HO := hide hown'
    have HB2 := hide ((((Below.refl w.heap.size w).alloc (Nat.le_refl _) _).alloc (by simp) _).grown hgrow (by simp; omega) (fun q hq => by cases hq; simp))
    clear hown' hgrow
    go_wp2_with fail
    refine (specBreaks _ _ _ (Rd.of_owns HO.out) (by omega)).mono ?_
    rintro e w2 ⟨rfl, rfl⟩
    go_wp2
    go_ret3
    exact ⟨_, rfl, HO.out, HB2.out⟩

set_option maxHeartbeats 400000 in
theorem toSpan (o l : Int) (w : World) :
    Calls Tryd.prog 7 #[.agg #[.int .i64 o, .int .i64 l]] w fun e w' => e = .returned (.agg #[.int .i64 o, .int .i64 l]) ∧ Below w.heap.size w w' := by
  go_enter Tryd.func7, Tryd.ntmps7
  go_wp2
  refine bodyPost_ret (v := .agg #[.int .i64 o, .int .i64 l]) (by simp [results, Tryd.results7, go_sem]) rfl ⟨rfl, ?_⟩
  exact (((Below.refl _ _).alloc (Nat.le_refl _) _).alloc (by simp) _).alloc (by simp; omega) _
end Go.Proofs.YtmpclndnjjhijaaDoor
