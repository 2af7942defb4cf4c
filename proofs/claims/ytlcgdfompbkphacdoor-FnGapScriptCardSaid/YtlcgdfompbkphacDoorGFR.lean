import Derived.Test.YtlcgdfompbkphacDoorGFace
import Derived.Test.YtlcgdfompbkphacDoorCodeOf
import Derived.Test.YtlcgdfompbkphacDoorGRng
import Derived.WalkKit
import Derived.WalkLawsBesides
namespace Go.Proofs.YtlcgdfompbkphacDoor
open Go Go.RowKit
set_option linter.unusedVariables false

def msgRd : ByteArray := ⟨#[114, 101, 97, 100, 105, 110, 103, 32, 102, 114, 111, 109, 32, 97, 32, 103, 97, 112, 32, 98, 117, 102, 102, 101, 114]⟩

set_option maxHeartbeats 1000000 in
set_option maxRecDepth 100000 in
theorem readRunes_bad (zs : List Int) (v : Value) (lo hi a b : Int) (w : World) (h : Gs w v zs) (hn : zs.length ≤ 1048576) (hk : ¬ gok zs lo hi) :
    Calls Tryd.prog 68 #[.agg #[v, .int .i64 lo, .int .i64 hi], .int .i64 a, .int .i64 b] w fun e w' => e = .returned (.tuple #[.slice none 0 0, .iface 120 (.agg #[.string msgGap, .iface 118 (.int .i64 1)])]) ∧ Below w.heap.size w w' := by
  obtain ⟨ao, cap, rfl⟩ := h.val
  have HB0 := hide ((Below.refl w.heap.size w).alloc (Nat.le_refl _) (.cells #[.slice ao zs.length cap, .int .i64 lo, .int .i64 hi] 38))
  have HI := hide (readGap_bad zs _ lo hi _ (h.below HB0.out (Nat.le_refl _)) hn hk)
  have hs0 : (w.alloc (.cells #[.slice ao zs.length cap, .int .i64 lo, .int .i64 hi] 38)).heap.size = w.heap.size + 1 := by simp
  generalize hN : zs.length = n at *
  clear h hk hN
  unfold zeroG at HI
  go_enter Tryd.func68, Tryd.ntmps68
  go_wp2_with fail
  generalize w.alloc (.cells #[.slice ao n cap, .int .i64 lo, .int .i64 hi] 38) = w0 at *
  refine HI.out.mono ?_
  rintro e w1 ⟨rfl, hb1⟩
  have HB1 := hide (HB0.out.trans (hb1.mono (by omega)))
  have hs1 := hb1.size
  clear hb1 HI HB0
  go_wp2
  go_ret2
  exact ⟨rfl, HB1.out.alloc (by omega) _⟩

set_option maxHeartbeats 1000000 in
set_option maxRecDepth 100000 in
theorem readRunes_out (zs : List Int) (v : Value) (lo hi : Nat) (a b : Int) (w : World) (h : Gs w v zs) (hk : GV zs lo hi) (hr : ¬ ((0 ≤ b ∧ b ≤ (zs.length : Int) - (hi - lo)) ∧ (0 ≤ a ∧ a ≤ b))) :
    Calls Tryd.prog 68 #[.agg #[v, .int .i64 lo, .int .i64 hi], .int .i64 a, .int .i64 b] w fun e w' => e = .returned (.tuple #[.slice none 0 0, .iface 120 (.agg #[.string msgRd, .iface 118 (.int .i64 2)])]) ∧ Below w.heap.size w w' := by
  obtain ⟨ao, cap, rfl⟩ := h.val
  have hn : zs.length ≤ 1048576 := by have := hk.c; omega
  have h1 := hk.a
  have h2 := hk.b
  have HB0 := hide ((Below.refl w.heap.size w).alloc (Nat.le_refl _) (.cells #[.slice ao zs.length cap, .int .i64 lo, .int .i64 hi] 38))
  have HI := hide (readGap_ok zs _ lo hi _ (h.below HB0.out (Nat.le_refl _)) hn (gok_gv.2 hk))
  have HK := hide (checkRangeN a b ((zs.length : Int) - (hi - lo)))
  have hs0 : (w.alloc (.cells #[.slice ao zs.length cap, .int .i64 lo, .int .i64 hi] 38)).heap.size = w.heap.size + 1 := by simp
  rw [show decide ((0 ≤ b ∧ b ≤ (zs.length : Int) - (hi - lo)) ∧ (0 ≤ a ∧ a ≤ b)) = false by rw [decide_eq_false_iff_not]; exact hr] at HK
  simp only [errV, Bool.false_eq_true, if_false] at HK
  generalize hN : zs.length = n at *
  have HN := hide hN
  clear h hk hN hr
  go_enter Tryd.func68, Tryd.ntmps68
  go_wp2_with fail
  generalize w.alloc (.cells #[.slice ao n cap, .int .i64 lo, .int .i64 hi] 38) = w0 at *
  refine HI.out.mono ?_
  rintro e w1 ⟨v1, rfl, ho1, hb1⟩
  obtain ⟨ao1, cap1, hv1⟩ := (Gs.of_owns ho1).val
  rw [HN.out] at hv1
  subst hv1
  have hs1 := hb1.size
  have HB1 := hide ((HB0.out.trans (hb1.mono (by omega))).alloc (by omega) (.cells #[.slice ao1 n cap1, .int .i64 lo, .int .i64 hi] 92))
  have HT1 := hide (T3.new w1 (.slice ao1 n cap1) (.int .i64 lo) (.int .i64 hi) 92)
  clear hb1 HI HB0 ho1
  go_wp2_with fail
  generalize w1.alloc (.cells #[.slice ao1 n cap1, .int .i64 lo, .int .i64 hi] 92) = w2 at *
  refine (lengthN _ _ _ _ _ _ _ w2 HT1.out.gc (by omega) (by omega) (by omega) (by omega)).mono ?_
  rintro e w3 ⟨rfl, m, rfl⟩
  go_wp2_with fail
  refine (HK.out _).mono ?_
  rintro e w4 ⟨rfl, rfl⟩
  go_wp2
  go_ret2
  exact ⟨rfl, below_drewN HB1.out m⟩

set_option maxHeartbeats 1000000 in
set_option maxRecDepth 100000 in
theorem readRunes_ok (zs : List Int) (v : Value) (lo hi : Nat) (a b : Nat) (w : World) (h : Gs w v zs) (hk : GV zs lo hi) (ha : a ≤ b) (hb : b ≤ zs.length - (hi - lo)) :
    Calls Tryd.prog 68 #[.agg #[v, .int .i64 lo, .int .i64 hi], .int .i64 a, .int .i64 b] w fun e w' => ∃ v', e = .returned (.tuple #[v', .nilIface]) ∧ w'.ownsRow w.heap.size 21 1 v' (b - a) (ints .i32 (((gtext zs lo hi).drop a).take (b - a))) ∧ Below w.heap.size w w' := by
  obtain ⟨ao, cap, rfl⟩ := h.val
  have hn : zs.length ≤ 1048576 := by have := hk.c; omega
  have h1 := hk.a
  have h2 := hk.b
  have HB0 := hide ((Below.refl w.heap.size w).alloc (Nat.le_refl _) (.cells #[.slice ao zs.length cap, .int .i64 lo, .int .i64 hi] 38))
  have HI := hide (readGap_ok zs _ lo hi _ (h.below HB0.out (Nat.le_refl _)) hn (gok_gv.2 hk))
  have HK := hide (checkRangeN a b ((zs.length : Int) - (hi - lo)))
  have hs0 : (w.alloc (.cells #[.slice ao zs.length cap, .int .i64 lo, .int .i64 hi] 38)).heap.size = w.heap.size + 1 := by simp
  rw [show decide ((0 ≤ (b : Int) ∧ (b : Int) ≤ (zs.length : Int) - (hi - lo)) ∧ (0 ≤ (a : Int) ∧ (a : Int) ≤ b)) = true by rw [decide_eq_true_eq]; omega] at HK
  simp only [errV, if_true] at HK
  have HR := hide (fun B g cap w' h' hz hg hc hcm => readN B 0 g cap zs lo hi a b w' h' hz hg h1 h2 hn hc hcm ha hb)
  have HL := hide (show (((gtext zs lo hi).drop a).take (b - a)).length = b - a by simp only [List.length_take, List.length_drop, gtext_length h1 h2]; omega)
  generalize ((gtext zs lo hi).drop a).take (b - a) = res at *
  generalize hN : zs.length = n at *
  have HN := hide hN
  clear h hk hN
  go_enter Tryd.func68, Tryd.ntmps68
  go_wp2_with fail
  generalize w.alloc (.cells #[.slice ao n cap, .int .i64 lo, .int .i64 hi] 38) = w0 at *
  refine HI.out.mono ?_
  rintro e w1 ⟨v1, rfl, ho1, hb1⟩
  have hs1 := hb1.size
  rcases (Gs.of_owns ho1) with ⟨rfl, hz0⟩ | ⟨g, cap1, hv1, hg1, hc1, hcm1, hcl1⟩
  · have en : n = 0 := by rw [← HN.out, hz0]; rfl
    subst en
    obtain rfl : b = 0 := by omega
    obtain rfl : a = 0 := by omega
    obtain rfl : hi = 0 := by omega
    obtain rfl : lo = 0 := by omega
    have hres : res = [] := List.eq_nil_of_length_eq_zero (by rw [HL.out])
    subst hres
    have HB1 := hide ((HB0.out.trans (hb1.mono (by omega))).alloc (by omega) (.cells #[.slice none 0 0, .int .i64 0, .int .i64 0] 92))
    have HT1 := hide (T3.new w1 (.slice none 0 0) (.int .i64 0) (.int .i64 0) 92)
    have es : w1.heap.size < (w1.alloc (.cells #[.slice none 0 0, .int .i64 0, .int .i64 0] 92)).heap.size := by simp
    clear hb1 HI HB0 ho1
    go_wp2_with fail
    generalize w1.alloc (.cells #[.slice none 0 0, .int .i64 0, .int .i64 0] 92) = w2 at *
    refine (lengthN _ _ _ _ _ _ _ w2 HT1.out.gc (by omega) (by omega) (by omega) (by omega)).mono ?_
    rintro e w3 ⟨rfl, m, rfl⟩
    go_wp2_with fail
    refine (HK.out _).mono ?_
    rintro e w4 ⟨rfl, rfl⟩
    go_wp2_with fail
    refine (readNil _ _ (w2.drewN m) (HT1.out.gc.same rfl)).mono ?_
    rintro e w5 ⟨v5, rfl, ho5, hb5⟩
    have HO5 := hide (owns_base ho5 (base' := w.heap.size) (by simp; omega))
    have HB5 := hide ((below_drewN HB1.out m).trans (hb5.mono (by simp; omega)))
    clear ho5 hb5
    go_wp2
    go_ret2
    exact ⟨_, rfl, HO5.out, HB5.out⟩
  rw [HN.out] at hv1 hc1
  subst hv1
  have HCL := hide hcl1
  have HCM := hide hcm1
  have HB1 := hide ((HB0.out.trans (hb1.mono (by omega))).alloc (by omega) (.cells #[.slice (some ⟨g, 0, none⟩) n cap1, .int .i64 lo, .int .i64 hi] 92))
  have HT1 := hide (T3.new w1 (.slice (some ⟨g, 0, none⟩) n cap1) (.int .i64 lo) (.int .i64 hi) 92)
  have HC1 := hide (HCL.out.below ((Below.refl w1.heap.size w1).alloc (Nat.le_refl _) (.cells #[.slice (some ⟨g, 0, none⟩) n cap1, .int .i64 lo, .int .i64 hi] 92)) hg1)
  have es : w1.heap.size < (w1.alloc (.cells #[.slice (some ⟨g, 0, none⟩) n cap1, .int .i64 lo, .int .i64 hi] 92)).heap.size := by simp
  clear hb1 HI HB0 ho1 hcl1 HCL hcm1
  go_wp2_with fail
  generalize w1.alloc (.cells #[.slice (some ⟨g, 0, none⟩) n cap1, .int .i64 lo, .int .i64 hi] 92) = w2 at *
  refine (lengthN _ _ _ _ _ _ _ w2 HT1.out.gc (by omega) (by omega) (by omega) (by omega)).mono ?_
  rintro e w3 ⟨rfl, m, rfl⟩
  go_wp2_with fail
  refine (HK.out _).mono ?_
  rintro e w4 ⟨rfl, rfl⟩
  go_wp2_with fail
  refine (HR.out _ _ _ (w2.drewN m) (HT1.out.gc.same rfl) (HC1.out.below (below_drewN (Below.refl w2.heap.size w2) m) (by omega)) (by simp; omega) hc1 HCM.out).mono ?_
  rintro e w5 ⟨v5, rfl, ho5, hb5⟩
  have HO5 := hide (owns_base ho5 (base' := w.heap.size) (by simp; omega))
  have HB5 := hide ((below_drewN HB1.out m).trans (hb5.mono (by simp; omega)))
  clear ho5 hb5
  go_wp2
  go_ret2
  exact ⟨_, rfl, HO5.out, HB5.out⟩

/-- What GapRead answers. -/
noncomputable def rdG (zs : List Int) (lo hi a b : Int) : List Int × Int :=
  open Classical in
  if gok zs lo hi then (if (0 ≤ b ∧ b ≤ zs.length - (hi - lo)) ∧ (0 ≤ a ∧ a ≤ b) then (((gtext zs lo.toNat hi.toNat).drop a.toNat).take (b.toNat - a.toNat), 0) else ([], 2)) else ([], 1)

theorem rdG_len (zs : List Int) (lo hi a b : Int) : (rdG zs lo hi a b).1.length ≤ zs.length := by
  unfold rdG
  split
  · rename_i hk
    obtain ⟨l, k, rfl, rfl, hv⟩ := gok_nat hk
    split
    · simp only [Int.toNat_natCast, List.length_take, List.length_drop, gtext_length hv.a hv.b]; omega
    · simp
  · simp

set_option maxHeartbeats 1000000 in
theorem implRead_err (msg : ByteArray) (c : Int) (arg : Value) (a b : Int) (ao : Option Addr) (n cap : Nat) (lo hi : Int) (w : World) (hg : w.cell? ⟨0, 0, none⟩ = some (.iface 186 (.agg #[.pointer (some ⟨1, 83, none⟩)])))
    (HI : Hid (∀ w', Below w.heap.size w w' → Calls Tryd.prog 68 #[.agg #[.slice ao n cap, .int .i64 lo, .int .i64 hi], .int .i64 a, .int .i64 b] w' fun e w'' => e = .returned (.tuple #[.slice none 0 0, .iface 120 (.agg #[.string msg, .iface 118 (.int .i64 c)])]) ∧ Below w'.heap.size w' w'')) :
    Calls Tryd.prog 38 #[.agg #[.slice ao n cap, .int .i64 lo, .int .i64 hi], .int .i64 a, .int .i64 b] w fun e w' => e = .returned (.tuple #[.slice none 0 0, .int .i64 c]) ∧ Below w.heap.size w w' := by
  have hlt : 0 < w.heap.size := World.block_lt_of_cell? w _ hg
  have HB0 := hide ((Below.refl w.heap.size w).alloc (Nat.le_refl _) (.cells #[.slice ao n cap, .int .i64 lo, .int .i64 hi] 38))
  have HG := hide hg
  clear hg
  go_enter Tryd.func38, Tryd.ntmps38
  go_wp2_with fail
  generalize w.alloc (.cells #[.slice ao n cap, .int .i64 lo, .int .i64 hi] 38) = w0 at *
  refine (HI.out w0 HB0.out).mono ?_
  rintro e w1 ⟨rfl, hb1⟩
  have HB1 := hide (HB0.out.trans (hb1.mono HB0.out.size))
  clear hb1 HI HB0
  go_wp2_with fail
  refine (codeOf msg c _ ((HB1.out.cell (p := ⟨0, 0, none⟩) hlt).trans HG.out)).mono ?_
  rintro e w2 ⟨rfl, hb⟩
  have HB2 := hide (HB1.out.trans (hb.mono HB1.out.size))
  clear hb HB1
  go_wp2
  go_ret2
  exact ⟨rfl, HB2.out⟩

set_option maxHeartbeats 1000000 in
theorem implRead_okG (zs : List Int) (v : Value) (lo hi : Nat) (a b : Nat) (w : World) (h : Gs w v zs) (hk : GV zs lo hi) (ha : a ≤ b) (hb : b ≤ zs.length - (hi - lo)) :
    Calls Tryd.prog 38 #[.agg #[v, .int .i64 lo, .int .i64 hi], .int .i64 a, .int .i64 b] w fun e w' => ∃ v', e = .returned (.tuple #[v', .int .i64 0]) ∧ w'.ownsRow w.heap.size 21 1 v' (b - a) (ints .i32 (((gtext zs lo hi).drop a).take (b - a))) ∧ Below w.heap.size w w' := by
  obtain ⟨ao, cap, rfl⟩ := h.val
  have HB0 := hide ((Below.refl w.heap.size w).alloc (Nat.le_refl _) (.cells #[.slice ao zs.length cap, .int .i64 lo, .int .i64 hi] 38))
  have HI := hide (readRunes_ok zs _ lo hi a b _ (h.below HB0.out (Nat.le_refl _)) hk ha hb)
  have hs0 := HB0.out.size
  generalize ((gtext zs lo hi).drop a).take (b - a) = res at *
  generalize zs.length = n at *
  clear h hk
  go_enter Tryd.func38, Tryd.ntmps38
  go_wp2_with fail
  generalize w.alloc (.cells #[.slice ao n cap, .int .i64 lo, .int .i64 hi] 38) = w0 at *
  refine HI.out.mono ?_
  rintro e w1 ⟨v1, rfl, ho1, hb1⟩
  have HO1 := hide (owns_base ho1 (base' := w.heap.size) (by omega))
  have HB1 := hide (HB0.out.trans (hb1.mono (by omega)))
  clear hb1 HI HB0 ho1
  go_wp2
  go_ret2
  exact ⟨_, rfl, HO1.out, HB1.out⟩

theorem implGapRead (zs : List Int) (v : Value) (lo hi a b : Int) (w : World) (h : Gs w v zs) (hn : zs.length ≤ 1048576) (hg : w.cell? ⟨0, 0, none⟩ = some (.iface 186 (.agg #[.pointer (some ⟨1, 83, none⟩)]))) :
    Calls Tryd.prog 38 #[.agg #[v, .int .i64 lo, .int .i64 hi], .int .i64 a, .int .i64 b] w fun e w' => ∃ v', e = .returned (.tuple #[v', .int .i64 (rdG zs lo hi a b).2]) ∧ w'.ownsRow w.heap.size 21 1 v' (rdG zs lo hi a b).1.length (ints .i32 (rdG zs lo hi a b).1) ∧ Below w.heap.size w w' := by
  by_cases hk : gok zs lo hi
  · obtain ⟨l, k, rfl, rfl, hv⟩ := gok_nat hk
    by_cases hr : (0 ≤ b ∧ b ≤ (zs.length : Int) - ((k : Int) - l)) ∧ (0 ≤ a ∧ a ≤ b)
    · obtain ⟨⟨hb0, hb1⟩, ha0, ha1⟩ := hr
      obtain ⟨a, rfl⟩ := Int.eq_ofNat_of_zero_le ha0
      obtain ⟨b, rfl⟩ := Int.eq_ofNat_of_zero_le hb0
      have h1 := hv.a
      have h2 := hv.b
      have e : rdG zs l k a b = (((gtext zs l k).drop a).take (b - a), 0) := by
        unfold rdG
        rw [if_pos hk, if_pos ⟨⟨hb0, hb1⟩, ha0, ha1⟩]
        simp only [Int.toNat_natCast]
      rw [e]
      have hl : (((gtext zs l k).drop a).take (b - a)).length = b - a := by simp only [List.length_take, List.length_drop, gtext_length h1 h2]; omega
      simp only [hl]
      exact implRead_okG zs v l k a b w h hv (by omega) (by omega)
    · have e : rdG zs l k a b = ([], 2) := by unfold rdG; rw [if_pos hk, if_neg hr]
      rw [e]
      obtain ⟨ao, cap, rfl⟩ := h.val
      exact (implRead_err msgRd 2 .nilIface a b ao zs.length cap l k w hg (hide fun w' hb => readRunes_out zs _ l k a b w' (h.below hb (Nat.le_refl _)) hv hr)).mono fun e w' ⟨he, hb⟩ => ⟨_, he, World.ownsRow_nil _ _ _ _, hb⟩
  · have e : rdG zs lo hi a b = ([], 1) := by unfold rdG; rw [if_neg hk]
    rw [e]
    obtain ⟨ao, cap, rfl⟩ := h.val
    exact (implRead_err msgGap 1 .nilIface a b ao zs.length cap lo hi w hg (hide fun w' hb => readRunes_bad zs _ lo hi a b w' (h.below hb (Nat.le_refl _)) hn hk)).mono fun e w' ⟨he, hb⟩ => ⟨_, he, World.ownsRow_nil _ _ _ _, hb⟩
end Go.Proofs.YtlcgdfompbkphacDoor
