import Derived.Test.YtlcgdfompbkphaaDoorGSp
import Derived.Test.YtlcgdfompbkphaaDoorGFR
import Derived.WalkKit
import Derived.WalkLawsBesides
import Derived.Laws.AppendOwnNone
namespace Go.Proofs.YtlcgdfompbkphaaDoor
open Go Go.RowKit
set_option linter.unusedVariables false

set_option maxHeartbeats 1000000 in
set_option maxRecDepth 100000 in
theorem specRead_badG (zs : List Int) (v : Value) (lo hi a b : Int) (w : World) (h : Gs w v zs) (hn : zs.length ≤ 1048576) (hk : ¬ gok zs lo hi) :
    Calls Tryd.prog 19 #[.agg #[v, .int .i64 lo, .int .i64 hi], .int .i64 a, .int .i64 b] w fun e w' => e = .returned (.tuple #[.slice none 0 0, .int .i64 1]) ∧ Below w.heap.size w w' := by
  obtain ⟨ao, cap, rfl⟩ := h.val
  have HB0 := hide ((Below.refl w.heap.size w).alloc (Nat.le_refl _) (.cells #[.slice ao zs.length cap, .int .i64 lo, .int .i64 hi] 44))
  have HI := hide (l3ValidN zs _ lo hi _ (h.below HB0.out (Nat.le_refl _)) hn)
  rw [show (@decide (gok zs lo hi) (Classical.propDecidable _)) = false by simpa using hk] at HI
  have hs0 := HB0.out.size
  generalize zs.length = n at *
  clear h hk
  go_enter Tryd.func19, Tryd.ntmps19
  go_wp2_with fail
  generalize w.alloc (.cells #[.slice ao n cap, .int .i64 lo, .int .i64 hi] 44) = w0 at *
  refine HI.out.mono ?_
  rintro e w1 ⟨rfl, hb1⟩
  have HB1 := hide (HB0.out.trans (hb1.mono (by omega)))
  clear hb1 HI HB0
  go_wp2
  go_ret2
  exact ⟨rfl, HB1.out⟩

set_option maxHeartbeats 1000000 in
set_option maxRecDepth 100000 in
theorem specRead_outG (zs : List Int) (v : Value) (lo hi : Nat) (a b : Int) (w : World) (h : Gs w v zs) (hk : GV zs lo hi) (hr : ¬ ((0 ≤ b ∧ b ≤ (zs.length : Int) - (hi - lo)) ∧ (0 ≤ a ∧ a ≤ b))) :
    Calls Tryd.prog 19 #[.agg #[v, .int .i64 lo, .int .i64 hi], .int .i64 a, .int .i64 b] w fun e w' => e = .returned (.tuple #[.slice none 0 0, .int .i64 2]) ∧ Below w.heap.size w w' := by
  obtain ⟨ao, cap, rfl⟩ := h.val
  have hn : zs.length ≤ 1048576 := by have := hk.c; omega
  have h1 := hk.a
  have h2 := hk.b
  have HB0 := hide ((Below.refl w.heap.size w).alloc (Nat.le_refl _) (.cells #[.slice ao zs.length cap, .int .i64 lo, .int .i64 hi] 44))
  have HS := hide (h.below HB0.out (Nat.le_refl _))
  have HI := hide (l3ValidN zs _ lo hi _ HS.out hn)
  rw [show (@decide (gok zs lo hi) (Classical.propDecidable _)) = true by simpa using gok_gv.2 hk] at HI
  have HX := hide (fun w h => l3TextN zs (.slice ao zs.length cap) lo hi w h hk)
  have k0 : (w.alloc (.cells #[.slice ao zs.length cap, .int .i64 lo, .int .i64 hi] 44)).cell? ⟨w.heap.size, 0, none⟩ = some (.slice ao zs.length cap) := by simp
  have k1 : (w.alloc (.cells #[.slice ao zs.length cap, .int .i64 lo, .int .i64 hi] 44)).cell? ⟨w.heap.size, 1, none⟩ = some (.int .i64 lo) := by simp
  have k2 : (w.alloc (.cells #[.slice ao zs.length cap, .int .i64 lo, .int .i64 hi] 44)).cell? ⟨w.heap.size, 2, none⟩ = some (.int .i64 hi) := by simp
  have hl0 : w.heap.size < (w.alloc (.cells #[.slice ao zs.length cap, .int .i64 lo, .int .i64 hi] 44)).heap.size := by simp
  obtain ⟨m, hm⟩ : ∃ m : Nat, m = (gtext zs lo hi).length := ⟨_, rfl⟩
  rw [← hm] at HX
  have em : (zs.length : Int) - (hi - lo) = m := by rw [hm, gtext_length h1 h2]; omega
  rw [em] at hr
  have m1 : m ≤ 1048576 := by omega
  have HM := hide hm
  have hs0 := HB0.out.size
  clear em hm
  generalize hN : zs.length = n at *
  have HN := hide hN
  clear h hk hN
  have key : a < 0 ∨ (¬ a < 0 ∧ b < a) ∨ (¬ a < 0 ∧ ¬ b < a ∧ (m : Int) < b) := by omega
  clear hr
  rcases key with ha | ⟨ha, hb⟩ | ⟨ha, hb, hc⟩
  all_goals (
    go_enter Tryd.func19, Tryd.ntmps19
    go_wp2_with fail
    generalize w.alloc (.cells #[.slice ao n cap, .int .i64 lo, .int .i64 hi] 44) = w0 at *
    refine HI.out.mono ?_
    rintro e w1 ⟨rfl, hb1⟩
    have g0 := (hb1.cell (p := ⟨w.heap.size, 0, none⟩) hl0).trans k0
    have g1 := (hb1.cell (p := ⟨w.heap.size, 1, none⟩) hl0).trans k1
    have g2 := (hb1.cell (p := ⟨w.heap.size, 2, none⟩) hl0).trans k2
    have HS1 := hide (HS.out.below hb1 (Nat.le_refl _))
    have HB1 := hide (HB0.out.trans (hb1.mono (by omega)))
    have hs1 := hb1.size
    clear hb1 HI HB0 HS k0 k1 k2
    go_wp2_with fail
    refine (HX.out _ HS1.out).mono ?_
    rintro e w2 ⟨v2, rfl, ho2, hb2⟩
    obtain ⟨ao2, cap2, hv2⟩ := (Gs.of_owns ho2).val
    rw [← HM.out] at hv2
    subst hv2
    have HB2 := hide (HB1.out.trans (hb2.mono (by omega)))
    clear ho2 hb2 HB1 HS1 g0 g1 g2
    go_wp2
    go_ret2
    exact ⟨rfl, HB2.out⟩)

set_option maxHeartbeats 1000000 in
set_option maxRecDepth 100000 in
theorem specRead_okG (zs : List Int) (v : Value) (lo hi : Nat) (a b : Nat) (w : World) (h : Gs w v zs) (hk : GV zs lo hi) (hab : a ≤ b) (hbb : b ≤ zs.length - (hi - lo)) :
    Calls Tryd.prog 19 #[.agg #[v, .int .i64 lo, .int .i64 hi], .int .i64 a, .int .i64 b] w fun e w' => ∃ v', e = .returned (.tuple #[v', .int .i64 0]) ∧ w'.ownsRow w.heap.size 21 1 v' (b - a) (ints .i32 (((gtext zs lo hi).drop a).take (b - a))) ∧ Below w.heap.size w w' := by
  obtain ⟨i0, hi', hz0, hz1, hz2⟩ := info_parts Tryd.infoG
  obtain ⟨ao, cap, rfl⟩ := h.val
  have hn : zs.length ≤ 1048576 := by have := hk.c; omega
  have h1 := hk.a
  have h2 := hk.b
  have HB0 := hide ((Below.refl w.heap.size w).alloc (Nat.le_refl _) (.cells #[.slice ao zs.length cap, .int .i64 lo, .int .i64 hi] 44))
  have HS := hide (h.below HB0.out (Nat.le_refl _))
  have HI := hide (l3ValidN zs _ lo hi _ HS.out hn)
  rw [show (@decide (gok zs lo hi) (Classical.propDecidable _)) = true by simpa using gok_gv.2 hk] at HI
  have HX := hide (fun w h => l3TextN zs (.slice ao zs.length cap) lo hi w h hk)
  have k0 : (w.alloc (.cells #[.slice ao zs.length cap, .int .i64 lo, .int .i64 hi] 44)).cell? ⟨w.heap.size, 0, none⟩ = some (.slice ao zs.length cap) := by simp
  have k1 : (w.alloc (.cells #[.slice ao zs.length cap, .int .i64 lo, .int .i64 hi] 44)).cell? ⟨w.heap.size, 1, none⟩ = some (.int .i64 lo) := by simp
  have k2 : (w.alloc (.cells #[.slice ao zs.length cap, .int .i64 lo, .int .i64 hi] 44)).cell? ⟨w.heap.size, 2, none⟩ = some (.int .i64 hi) := by simp
  have hl0 : w.heap.size < (w.alloc (.cells #[.slice ao zs.length cap, .int .i64 lo, .int .i64 hi] 44)).heap.size := by simp
  have em : (gtext zs lo hi).length = zs.length - (hi - lo) := gtext_length h1 h2
  generalize gtext zs lo hi = tx at *
  obtain ⟨m, hm⟩ : ∃ m : Nat, m = tx.length := ⟨_, rfl⟩
  rw [← hm] at HX em
  rw [← em] at hbb
  have m1 : m ≤ 1048576 := by omega
  have HM := hide hm
  have hs0 := HB0.out.size
  have t1 : ¬ (a : Int) < 0 := by omega
  have t2 : ¬ (b : Int) < (a : Int) := by omega
  have t3 : ¬ (m : Int) < (b : Int) := by omega
  clear em hm
  generalize hN : zs.length = n at *
  clear h hk hN
  go_enter Tryd.func19, Tryd.ntmps19
  go_wp2_with fail
  generalize w.alloc (.cells #[.slice ao n cap, .int .i64 lo, .int .i64 hi] 44) = w0 at *
  refine HI.out.mono ?_
  rintro e w1 ⟨rfl, hb1⟩
  have g0 := (hb1.cell (p := ⟨w.heap.size, 0, none⟩) hl0).trans k0
  have g1 := (hb1.cell (p := ⟨w.heap.size, 1, none⟩) hl0).trans k1
  have g2 := (hb1.cell (p := ⟨w.heap.size, 2, none⟩) hl0).trans k2
  have HS1 := hide (HS.out.below hb1 (Nat.le_refl _))
  have HB1 := hide (HB0.out.trans (hb1.mono (by omega)))
  have hs1 := hb1.size
  clear hb1 HI HB0 HS k0 k1 k2
  go_wp2_with fail
  refine (HX.out _ HS1.out).mono ?_
  rintro e w2 ⟨v2, rfl, ho2, hb2⟩
  have hs2 := hb2.size
  have HB2 := hide ((HB1.out.trans (hb2.mono (by omega))).alloc (by omega) (.cells #[] 21))
  have H0 := hide (owns_base (base' := w.heap.size) (own_new w2) (by omega))
  have hsb := HB2.out.size
  rcases (Gs.of_owns ho2) with ⟨rfl, hz⟩ | ⟨g, cap2, hv2, hg2, hc2, hcm2, hcl2⟩
  · have m0 : m = 0 := by rw [HM.out, hz]; rfl
    subst m0
    obtain rfl : b = 0 := by omega
    obtain rfl : a = 0 := by omega
    subst hz
    clear ho2 hb2 HB1 HS1 g0 g1 g2 HM
    go_wp2_with (at_builtin; refine wpList_append_own_none rfl _ _ 22 rfl w.heap.size 21 i0 1 Tryd.underlying22 hi' _ _ _ rfl H0.out rfl ?_)
    go_ret2
    exact ⟨_, rfl, H0.out, HB2.out⟩
  · have HC2 := hide (hcl2.below ((Below.refl w2.heap.size w2).alloc (Nat.le_refl _) (.cells #[] 21)) hg2)
    rw [← HM.out] at hv2 hc2
    subst hv2
    have hl2 : g < (w2.alloc (.cells #[] 21)).heap.size := by simp; omega
    have HA := hide (HC2.out.app a (b - a) (by rw [← HM.out]; omega))
    have EA := hide (show (ints .i32 ((tx.drop a).take (b - a))).length = (b - a) * 1 by rw [ints_length, List.length_take, List.length_drop, ← HM.out]; omega)
    clear ho2 hb2 HB1 HS1 g0 g1 g2 hcl2 hcm2
    by_cases hco : cap2 = a
    · obtain rfl : b = a := by omega
      subst hco
      go_wp2_with (at_builtin; refine wpList_append_own _ rfl _ _ 22 rfl w.heap.size 21 i0 (.int .i32 0) 1 4 Tryd.underlying22 hi' hz0 hz1 hz2 rfl (by decide) _ 0 [] rfl H0.out ⟨g, 0, none⟩ 0 _ (ints .i32 []) rfl (by simp [ints]) (by intro j u h; simp [ints] at h) (ints_one _ _) (by unfold maxLen; omega) (by omega) hsb ?_; intro v3 w3 hown' hgrow _)
      have HO3 := hide hown'
      have HB3 := hide (HB2.out.grown hgrow hsb (fun q hq => (H0.out.lt q hq).1))
      clear hown' hgrow
      go_wp2
      go_ret2
      exact ⟨_, rfl, HO3.out, HB3.out⟩
    · go_wp2_with (at_builtin; refine wpList_append_own _ rfl _ _ 22 rfl w.heap.size 21 i0 (.int .i32 0) 1 4 Tryd.underlying22 hi' hz0 hz1 hz2 rfl (by decide) _ 0 [] rfl H0.out ⟨g, a, none⟩ (b - a) (cap2 - a) (ints .i32 ((tx.drop a).take (b - a))) rfl EA.out HA.out (ints_one _ _) (by unfold maxLen; omega) (by omega) hsb ?_; intro v3 w3 hown' hgrow _)
      rw [Nat.zero_add, List.nil_append] at hown'
      have HO3 := hide hown'
      have HB3 := hide (HB2.out.grown hgrow hsb (fun q hq => (H0.out.lt q hq).1))
      clear hown' hgrow
      go_wp2
      go_ret2
      exact ⟨_, rfl, HO3.out, HB3.out⟩

theorem specGapRead (zs : List Int) (v : Value) (lo hi a b : Int) (w : World) (h : Gs w v zs) (hn : zs.length ≤ 1048576) :
    Calls Tryd.prog 19 #[.agg #[v, .int .i64 lo, .int .i64 hi], .int .i64 a, .int .i64 b] w fun e w' => ∃ v', e = .returned (.tuple #[v', .int .i64 (rdG zs lo hi a b).2]) ∧ w'.ownsRow w.heap.size 21 1 v' (rdG zs lo hi a b).1.length (ints .i32 (rdG zs lo hi a b).1) ∧ Below w.heap.size w w' := by
  by_cases hk : gok zs lo hi
  · obtain ⟨l, k, rfl, rfl, hv⟩ := gok_nat hk
    by_cases hr : (0 ≤ b ∧ b ≤ (zs.length : Int) - ((k : Int) - l)) ∧ (0 ≤ a ∧ a ≤ b)
    · obtain ⟨⟨hb0, hb1⟩, ha0, ha1⟩ := hr
      obtain ⟨a, rfl⟩ := Int.eq_ofNat_of_zero_le ha0
      obtain ⟨b, rfl⟩ := Int.eq_ofNat_of_zero_le hb0
      have h1 := hv.a
      have h2 := hv.b
      have e : rdG zs l k a b = (((gtext zs l k).drop a).take (b - a), 0) := by
        unfold rdG
        rw [if_pos hk, if_pos ⟨⟨hb0, hb1⟩, ha0, ha1⟩]
        simp only [Int.toNat_natCast]
      rw [e]
      have hl : (((gtext zs l k).drop a).take (b - a)).length = b - a := by simp only [List.length_take, List.length_drop, gtext_length h1 h2]; omega
      simp only [hl]
      exact specRead_okG zs v l k a b w h hv (by omega) (by omega)
    · have e : rdG zs l k a b = ([], 2) := by unfold rdG; rw [if_pos hk, if_neg hr]
      rw [e]
      exact (specRead_outG zs v l k a b w h hv hr).mono fun e w' ⟨he, hb⟩ => ⟨_, he, World.ownsRow_nil _ _ _ _, hb⟩
  · have e : rdG zs lo hi a b = ([], 1) := by unfold rdG; rw [if_neg hk]
    rw [e]
    exact (specRead_badG zs v lo hi a b w h hn hk).mono fun e w' ⟨he, hb⟩ => ⟨_, he, World.ownsRow_nil _ _ _ _, hb⟩
end Go.Proofs.YtlcgdfompbkphaaDoor
