import Derived.Test.YtbgngikejgihgagGreatDoorMq06
import Derived.WalkKit
import Derived.WalkLawsBesides
import Derived.Laws.AppendOwnNone
import Derived.Deep.RegionWith
import Derived.Deep.Cut
import Derived.Deep.CutRange
import Derived.Deep.CutBlock
import Derived.Deep.DeepCutAuto
namespace Go.Proofs.YtbgngikejgihgagGreatDoor
open Go Go.RowKit
set_option linter.unusedVariables false

set_option maxHeartbeats 1000000 in
set_option maxRecDepth 100000 in
theorem l3Valid_bad (ao : Option Addr) (n cap : Nat) (lo hi : Int) (w : World) (h : ¬ ((n : Int) ≤ 65536 ∧ 0 ≤ lo ∧ lo ≤ hi ∧ hi ≤ n)) (hn : n ≤ 1048576) :
    Calls Tryz.prog 101 #[.agg #[.slice ao n cap, .int .i64 lo, .int .i64 hi]] w fun e w' => e = .returned (.bool false) ∧ Below w.heap.size w w' := by
  have HB := hide ((Below.refl w.heap.size w).alloc (Nat.le_refl _) (.cells #[.slice ao n cap, .int .i64 lo, .int .i64 hi] 152))
  by_cases h1 : (65536 : Int) < n
  · clear h
    go_enter Tryz.func101, Tryz.ntmps101
    go_wp2
    go_ret
    exact ⟨rfl, HB.out⟩
  by_cases h2 : lo < 0
  · clear h
    go_enter Tryz.func101, Tryz.ntmps101
    go_wp2
    go_ret
    exact ⟨rfl, HB.out⟩
  by_cases h3 : hi < lo
  · clear h
    go_enter Tryz.func101, Tryz.ntmps101
    go_wp2
    go_ret
    exact ⟨rfl, HB.out⟩
  · have h4 : (n : Int) < hi := by omega
    clear h
    go_enter Tryz.func101, Tryz.ntmps101
    go_wp2
    go_ret
    exact ⟨rfl, HB.out⟩

set_option maxHeartbeats 1000000 in
set_option maxRecDepth 100000 in
theorem l3Valid_nil (w : World) :
    Calls Tryz.prog 101 #[.agg #[.slice none 0 0, .int .i64 0, .int .i64 0]] w fun e w' => e = .returned (.bool true) ∧ Below w.heap.size w w' := by
  have HB := hide ((Below.refl w.heap.size w).alloc (Nat.le_refl _) (.cells #[.slice none 0 0, .int .i64 0, .int .i64 0] 152))
  go_enter Tryz.func101, Tryz.ntmps101
  go_wp2
  refine wp_loop_rounds 1 ?_
  rw [rounds_succ]
  go_wp2
  go_ret
  exact ⟨rfl, HB.out⟩

set_option maxHeartbeats 1000000 in
set_option maxRecDepth 100000 in
theorem l3Valid_row (g cap n : Nat) (zs : List Int) (lo hi : Nat) (b : Bool) (w : World) (hz : Cl w g zs) (hg : g < w.heap.size) (hN : zs.length = n) (hc : n ≤ cap) (h1 : lo ≤ hi) (h2 : hi ≤ n) (h3 : n ≤ 65536) (hb : b = true ↔ (n - (hi - lo) ≤ 8192 ∧ ∀ i, lo ≤ i → i < hi → zs.getD i 0 = 0)) :
    Calls Tryz.prog 101 #[.agg #[.slice (some ⟨g, 0, none⟩) n cap, .int .i64 lo, .int .i64 hi]] w fun e w' => e = .returned (.bool b) ∧ Below w.heap.size w w' := by
  have HB := hide ((Below.refl w.heap.size w).alloc (Nat.le_refl _) (.cells #[.slice (some ⟨g, 0, none⟩) n cap, .int .i64 lo, .int .i64 hi] 152))
  have HZ := hide (hz.below HB.out hg)
  have HBB := hide hb
  have HN := hide hN
  have k0 : (w.alloc (.cells #[.slice (some ⟨g, 0, none⟩) n cap, .int .i64 lo, .int .i64 hi] 152)).cell? ⟨w.heap.size, 0, none⟩ = some (.slice (some ⟨g, 0, none⟩) n cap) := by simp
  have k1 : (w.alloc (.cells #[.slice (some ⟨g, 0, none⟩) n cap, .int .i64 lo, .int .i64 hi] 152)).cell? ⟨w.heap.size, 1, none⟩ = some (.int .i64 lo) := by simp
  have k2 : (w.alloc (.cells #[.slice (some ⟨g, 0, none⟩) n cap, .int .i64 lo, .int .i64 hi] 152)).cell? ⟨w.heap.size, 2, none⟩ = some (.int .i64 hi) := by simp
  clear hz hb hN
  go_enter Tryz.func101, Tryz.ntmps101
  go_wp2
  generalize w.alloc (.cells #[.slice (some ⟨g, 0, none⟩) n cap, .int .i64 lo, .int .i64 hi] 152) = w2 at *
  go_loop [3] (fun i => ∃ k : Nat, lo ≤ k ∧ k ≤ hi ∧ i = .int .i64 k ∧ ∀ j, lo ≤ j → j < k → zs.getD j 0 = 0) (fun i => hi - (intOf i).toNat)
  case atStart => exact ⟨lo, Nat.le_refl _, h1, rfl, fun j a c => by omega⟩
  case round =>
    obtain ⟨k, hk0, hk, rfl, hall⟩ := hrel
    have HA := hide hall
    clear hall
    by_cases hlt : k < hi
    · have hx := HZ.out k (by rw [HN.out]; omega)
      obtain ⟨z, hzz⟩ : ∃ z, z = zs.getD k 0 := ⟨_, rfl⟩
      rw [← hzz] at hx
      have HZZ := hide hzz
      clear hzz
      by_cases h0 : z = 0
      · subst h0
        go_wp2
        go_round
        case rel => exact ⟨k + 1, by omega, by omega, by go_num, fun j a c => by
          by_cases e : j = k
          · rw [e]; exact HZZ.out.symm
          · exact HA.out j a (by omega)⟩
        case measure => simp [intOf]; omega
      · have hne : (z != 0) = true := by simpa using h0
        obtain rfl : b = false := by
          cases hbb : b with
          | false => rfl
          | true => exact absurd (HZZ.out.trans ((HBB.out.1 hbb).2 k (by omega) (by omega))) h0
        go_wp2
        go_ret
        exact ⟨rfl, HB.out⟩
    · obtain rfl : k = hi := by omega
      by_cases ht : (n : Int) - ((k : Int) - (lo : Int)) ≤ 8192
      · obtain rfl : b = true := HBB.out.2 ⟨by omega, fun i a c => HA.out i a (by omega)⟩
        go_wp2
        refine bodyPost_ret (v := .bool true) (by simp [results, Tryz.results101, go_sem]) rfl ⟨rfl, HB.out⟩
      · obtain rfl : b = false := by
          cases hbb : b with
          | false => rfl
          | true => exact absurd (HBB.out.1 hbb).1 (by omega)
        go_wp2
        refine bodyPost_ret (v := .bool false) (by simp [results, Tryz.results101, go_sem]) rfl ⟨rfl, HB.out⟩

open Classical in
theorem l3ValidN (zs : List Int) (v : Value) (lo hi : Int) (w : World) (h : Gs w v zs) (hn : zs.length ≤ 1048576) :
    Calls Tryz.prog 101 #[.agg #[v, .int .i64 lo, .int .i64 hi]] w fun e w' => e = .returned (.bool (decide (gok zs lo hi))) ∧ Below w.heap.size w w' := by
  by_cases hb : (zs.length : Int) ≤ 65536 ∧ 0 ≤ lo ∧ lo ≤ hi ∧ hi ≤ zs.length
  · obtain ⟨b1, b2, b3, b4⟩ := hb
    obtain ⟨l, rfl⟩ := Int.eq_ofNat_of_zero_le b2
    obtain ⟨k, rfl⟩ := Int.eq_ofNat_of_zero_le (Int.le_trans b2 b3)
    rcases h with ⟨rfl, rfl⟩ | ⟨g, cap, rfl, hg, h1, h2, h3⟩
    · obtain rfl : k = 0 := by simpa using b4
      obtain rfl : l = 0 := by omega
      have hd : decide (gok [] ((0 : Nat) : Int) ((0 : Nat) : Int)) = true := by
        simp only [decide_eq_true_eq]
        exact gok_gv.2 ⟨by omega, by simp, fun i a c => by omega, by simp, by simp⟩
      rw [hd]
      exact l3Valid_nil w
    · refine l3Valid_row g cap zs.length zs l k _ w h3 hg rfl h1 (by omega) (by omega) (by omega) ?_
      simp only [decide_eq_true_eq]
      constructor
      · intro hh; have := gok_gv.1 hh; exact ⟨this.t, this.z⟩
      · intro hh; exact gok_gv.2 ⟨by omega, by omega, hh.2, by omega, hh.1⟩
  · obtain ⟨ao, cap, rfl⟩ := h.val
    have hd : decide (gok zs lo hi) = false := by
      simp only [decide_eq_false_iff_not]
      exact fun hh => hb ⟨hh.1.1, hh.1.2.2.1.1, hh.1.2.2.1.2, hh.1.2.1.2⟩
    rw [hd]
    exact l3Valid_bad ao zs.length cap lo hi w hb hn

theorem own_new (w : World) : (w.alloc (.cells #[] 21)).ownsRow w.heap.size 21 1 (.slice (some ⟨w.heap.size, 0, none⟩) 0 0) 0 [] := by
  have := World.ownsRow_made (base := w.heap.size) (e := 21) (size := 1) w #[] 0 (by simp) (Nat.zero_le _) rfl
  simpa using this

/-- Rows that are read: what append takes. -/
theorem Cl.app {w : World} {g : Nat} {zs : List Int} (h : Cl w g zs) (p l : Nat) (hp : p + l ≤ zs.length) : ∀ j u, (ints .i32 ((zs.drop p).take l))[j]? = some u → w.cell? ((⟨g, p, none⟩ : Addr).add j) = some u := by
  have := cut_cells (k := .i32) (w := w) (b := g) (off := 0) (o := p) (l := l) (zs := zs) (fun i hi => by rw [Nat.zero_add]; exact h i hi)
  simpa using this

set_option maxHeartbeats 1000000 in
set_option maxRecDepth 100000 in
theorem l3Text_nil (w : World) :
    Calls Tryz.prog 96 #[.agg #[.slice none 0 0, .int .i64 0, .int .i64 0]] w fun e w' => ∃ g cap, e = .returned (.slice (some ⟨g, 0, none⟩) 0 cap) ∧ w'.ownsRow w.heap.size 21 1 (.slice (some ⟨g, 0, none⟩) 0 cap) 0 (ints .i32 []) ∧ Below w.heap.size w w' := by
  obtain ⟨i0, hi, hz0, hz1, hz2⟩ := info_parts Tryz.infoG
  have HB := hide (((Below.refl w.heap.size w).alloc (Nat.le_refl _) (.cells #[.slice none 0 0, .int .i64 0, .int .i64 0] 152)).alloc (by simp) (.cells #[] 21))
  have H0 := hide (owns_base (base' := w.heap.size) (own_new (w.alloc (.cells #[.slice none 0 0, .int .i64 0, .int .i64 0] 152))) (by simp))
  have es : (w.alloc (.cells #[.slice none 0 0, .int .i64 0, .int .i64 0] 152)).heap.size = w.heap.size + 1 := by simp
  rw [es] at H0
  clear es
  go_enter Tryz.func96, Tryz.ntmps96
  go_wp2_with (at_builtin; refine wpList_append_own_none rfl _ _ 36 rfl w.heap.size 21 i0 1 Tryz.underlying36 hi _ _ _ rfl H0.out rfl ?_)
  go_ret
  exact ⟨_, _, rfl, H0.out, HB.out⟩

set_option maxHeartbeats 1000000 in
set_option maxRecDepth 100000 in
theorem l3Text_row (g cap n : Nat) (zs : List Int) (lo hi : Nat) (w : World) (hz : Cl w g zs) (hg : g < w.heap.size) (hN : zs.length = n) (hc : n ≤ cap) (hcm : cap ≤ maxLen) (h1 : lo ≤ hi) (h2 : hi ≤ n) (h3 : n ≤ 65536) :
    Calls Tryz.prog 96 #[.agg #[.slice (some ⟨g, 0, none⟩) n cap, .int .i64 lo, .int .i64 hi]] w fun e w' => ∃ v', e = .returned v' ∧ v' ≠ .slice none 0 0 ∧ w'.ownsRow w.heap.size 21 1 v' (n - (hi - lo)) (ints .i32 (gtext zs lo hi)) ∧ Below w.heap.size w w' := by
  obtain ⟨i0, hi', hz0, hz1, hz2⟩ := info_parts Tryz.infoG
  have HB := hide (((Below.refl w.heap.size w).alloc (Nat.le_refl _) (.cells #[.slice (some ⟨g, 0, none⟩) n cap, .int .i64 lo, .int .i64 hi] 152)).alloc (by simp) (.cells #[] 21))
  have H0 := hide (owns_base (base' := w.heap.size) (own_new (w.alloc (.cells #[.slice (some ⟨g, 0, none⟩) n cap, .int .i64 lo, .int .i64 hi] 152))) (by simp))
  have es : (w.alloc (.cells #[.slice (some ⟨g, 0, none⟩) n cap, .int .i64 lo, .int .i64 hi] 152)).heap.size = w.heap.size + 1 := by simp
  rw [es] at H0
  have HT0 := hide ((T3.new w (.slice (some ⟨g, 0, none⟩) n cap) (.int .i64 lo) (.int .i64 hi) 152).below ((Below.refl _ _).alloc (Nat.le_refl _) (.cells #[] 21)) (by simp))
  have HZ := hide (hz.below HB.out hg)
  have HA1 := hide (HZ.out.app 0 lo (by omega))
  have e1 : (ints .i32 ((zs.drop 0).take lo)).length = lo * 1 := by rw [ints_length, List.length_take, List.drop_zero]; omega
  have E1 := hide e1
  have HN := hide hN
  have es2 : ((w.alloc (.cells #[.slice (some ⟨g, 0, none⟩) n cap, .int .i64 lo, .int .i64 hi] 152)).alloc (.cells #[] 21)).heap.size = w.heap.size + 2 := by simp
  have hs0 := HB.out.size
  clear es e1 hN hz
  go_enter Tryz.func96, Tryz.ntmps96
  go_upto_region 2 with (at_builtin; refine wpList_append_own _ rfl _ _ 36 rfl w.heap.size 21 i0 (.int .i32 0) 1 4 Tryz.underlying36 hi' hz0 hz1 hz2 rfl (by decide) _ 0 [] rfl H0.out ⟨g, 0, none⟩ lo cap (ints .i32 ((zs.drop 0).take lo)) rfl E1.out HA1.out (ints_one _ _) (by unfold maxLen; omega) (by omega) hs0 ?_; intro v2 w2 hown' hgrow hnil2)
  have N2 := hide (show v2 ≠ .slice none 0 0 from fun e => by
    have h' : Value.slice (some ⟨w.heap.size + 1, 0, none⟩) 0 0 = .slice none 0 0 := (hnil2.1 e).1
    cases h')
  have HO2 := hide hown'
  have HB2 := hide (HB.out.grown hgrow hs0 (fun q hq => (H0.out.lt q hq).1))
  have hgr2 : ((w.alloc (.cells #[.slice (some ⟨g, 0, none⟩) n cap, .int .i64 lo, .int .i64 hi] 152)).alloc (.cells #[] 21)).grownBy w2 (some (w.heap.size + 1)) := hgrow
  have HT2 := hide (show T3 w2 w.heap.size (.slice (some ⟨g, 0, none⟩) n cap) (.int .i64 lo) (.int .i64 hi) 152 from (hgr2.block _ (by rw [es2]; omega) (by simp)).trans HT0.out)
  have HZ2 := hide (show Cl w2 g zs from fun i hi => (World.cell?_of_block (hgr2.block g (by rw [es2]; omega) (by simp; omega))).trans (HZ.out i hi))
  have hs2 := HB2.out.size
  have hl2 : w.heap.size + 1 < w2.heap.size := by have := hgrow.size; rw [es2] at this; omega
  obtain ⟨g0, g1, g2⟩ := HT2.out.c
  clear hown' hgrow hgr2 hnil2 HB H0 HT0 HZ HA1 E1 es2 hs0
  by_cases hco : cap = hi
  · have HA2 := hide (HZ2.out.app hi 0 (by rw [HN.out]; omega))
    obtain rfl : n = hi := by omega
    have EQ := hide (show gtext zs lo n = (zs.drop 0).take lo ++ (zs.drop n).take 0 by rw [gtext, List.drop_zero, List.take_zero, List.drop_of_length_le (by rw [HN.out]; exact Nat.le_refl _)])
    subst hco
    go_wp2_with (at_builtin; refine wpList_append_own _ rfl _ _ 36 rfl w.heap.size 21 i0 (.int .i32 0) 1 4 Tryz.underlying36 hi' hz0 hz1 hz2 rfl (by decide) _ _ _ rfl HO2.out ⟨g, 0, none⟩ 0 _ (ints .i32 ((zs.drop cap).take 0)) rfl (by simp [ints]) (by intro j u h; simp [ints] at h) (ints_one _ _) (by unfold maxLen; omega) (by omega) hs2 ?_; intro v3 w3 hown' hgrow hnil3)
    have N3 := hide (show v3 ≠ .slice none 0 0 from fun e => N2.out (hnil3.1 e).1)
    have HO3 := hide hown'
    have HB3 := hide (HB2.out.grown hgrow hs2 (fun q hq => (HO2.out.lt q hq).1))
    clear hown' hgrow hnil3
    go_wp2
    go_ret
    refine ⟨_, rfl, N3.out, ?_, HB3.out⟩
    rw [EQ.out, ints_append]
    have e : cap - (cap - lo) = 0 + lo + 0 := by omega
    rw [e]
    simpa using HO3.out
  · have HA2 := hide (HZ2.out.app hi (n - hi) (by rw [HN.out]; omega))
    have EQ := hide (show gtext zs lo hi = (zs.drop 0).take lo ++ (zs.drop hi).take (n - hi) by rw [gtext, List.drop_zero, List.take_of_length_le (l := zs.drop hi) (by rw [List.length_drop, HN.out]; exact Nat.le_refl _)])
    have E2 := hide (show (ints .i32 ((zs.drop hi).take (n - hi))).length = (n - hi) * 1 by rw [ints_length, List.length_take, List.length_drop, HN.out]; omega)
    go_wp2_with (at_builtin; refine wpList_append_own _ rfl _ _ 36 rfl w.heap.size 21 i0 (.int .i32 0) 1 4 Tryz.underlying36 hi' hz0 hz1 hz2 rfl (by decide) _ _ _ rfl HO2.out ⟨g, hi, none⟩ (n - hi) (cap - hi) (ints .i32 ((zs.drop hi).take (n - hi))) rfl E2.out HA2.out (ints_one _ _) (by unfold maxLen; omega) (by omega) hs2 ?_; intro v3 w3 hown' hgrow hnil3)
    have N3 := hide (show v3 ≠ .slice none 0 0 from fun e => N2.out (hnil3.1 e).1)
    have HO3 := hide hown'
    have HB3 := hide (HB2.out.grown hgrow hs2 (fun q hq => (HO2.out.lt q hq).1))
    clear hown' hgrow hnil3
    go_wp2
    go_ret
    refine ⟨_, rfl, N3.out, ?_, HB3.out⟩
    rw [EQ.out, ints_append]
    have e : n - (hi - lo) = 0 + lo + (n - hi) := by omega
    rw [e]
    simpa using HO3.out

theorem l3TextN (zs : List Int) (v : Value) (lo hi : Nat) (w : World) (h : Gs w v zs) (hv : GV zs lo hi) :
    Calls Tryz.prog 96 #[.agg #[v, .int .i64 lo, .int .i64 hi]] w fun e w' => ∃ v', e = .returned v' ∧ v' ≠ .slice none 0 0 ∧ w'.ownsRow w.heap.size 21 1 v' (gtext zs lo hi).length (ints .i32 (gtext zs lo hi)) ∧ Below w.heap.size w w' := by
  have h1 := hv.a
  have h2 := hv.b
  rcases h with ⟨rfl, rfl⟩ | ⟨g, cap, rfl, hg, k1, k2, k3⟩
  · obtain rfl : hi = 0 := by simpa using h2
    obtain rfl : lo = 0 := by omega
    exact (l3Text_nil w).mono fun e w' ⟨g, cap, he, ho, hb⟩ => ⟨_, he, by simp, by simpa [gtext] using ho, hb⟩
  · rw [gtext_length h1 h2]
    exact l3Text_row g cap zs.length zs lo hi w k3 hg rfl k1 k2 h1 h2 hv.c
end Go.Proofs.YtbgngikejgihgagGreatDoor
