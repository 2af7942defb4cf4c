import Derived.Test.YtlcgdfompbkphacDoorGDelI
import Derived.WalkKit
import Derived.WalkLawsBesides
namespace Go.Proofs.YtlcgdfompbkphacDoor
open Go Go.RowKit
set_option linter.unusedVariables false

set_option maxHeartbeats 2000000 in
set_option maxRecDepth 100000 in
theorem faceDel (r : Except Int (List Int × Int × Int)) (ao : Option Addr) (n cap : Nat) (lo hi a b : Int) (w : World) (hg : w.cell? ⟨0, 0, none⟩ = some (.iface 186 (.agg #[.pointer (some ⟨1, 83, none⟩)])))
    (HI : Hid (∀ w', Below w.heap.size w w' → Calls Tryd.prog 54 #[.agg #[.slice ao n cap, .int .i64 lo, .int .i64 hi], .int .i64 a, .int .i64 b] w' (EditPost w' r))) :
    Calls Tryd.prog 24 #[.agg #[.slice ao n cap, .int .i64 lo, .int .i64 hi], .int .i64 a, .int .i64 b] w (FacePost w (faceG r)) := by
  have hlt : 0 < w.heap.size := World.block_lt_of_cell? w _ hg
  have HB0 := hide (((Below.refl w.heap.size w).alloc (Nat.le_refl _) (.cells #[.slice ao n cap, .int .i64 lo, .int .i64 hi] 38)).alloc (by simp) (.cells #[.slice none 0 0, .int .i64 0, .int .i64 0] 38))
  have HT0 := hide (T3.new (w.alloc (.cells #[.slice ao n cap, .int .i64 lo, .int .i64 hi] 38)) (.slice none 0 0) (.int .i64 0) (.int .i64 0) 38)
  have es : (w.alloc (.cells #[.slice ao n cap, .int .i64 lo, .int .i64 hi] 38)).heap.size = w.heap.size + 1 := by simp
  have hs0 : ((w.alloc (.cells #[.slice ao n cap, .int .i64 lo, .int .i64 hi] 38)).alloc (.cells #[.slice none 0 0, .int .i64 0, .int .i64 0] 38)).heap.size = w.heap.size + 2 := by simp
  rw [es] at HT0
  have HG := hide ((HB0.out.cell (p := ⟨0, 0, none⟩) hlt).trans hg)
  have HJ := hide (HI.out _ HB0.out)
  clear es hg HI
  go_enter Tryd.func24, Tryd.ntmps24
  go_wp2_with fail
  generalize (w.alloc (.cells #[.slice ao n cap, .int .i64 lo, .int .i64 hi] 38)).alloc (.cells #[.slice none 0 0, .int .i64 0, .int .i64 0] 38) = w0 at *
  refine HJ.out.mono ?_
  cases r with
  | error c =>
    rintro e w1 ⟨hb1, msg, ao1, n1, cap1, lo1, hi1, rfl⟩
    have hs1 := hb1.size
    have HT1 := hide (HT0.out.below hb1 (by omega))
    have HB1 := hide (HB0.out.trans (hb1.mono (by omega)))
    have HG1 := hide ((hb1.cell (p := ⟨0, 0, none⟩) (show 0 < w0.heap.size by omega)).trans HG.out)
    clear hb1 HJ HT0 HB0 HG
    go_wp2_with fail
    refine (answer_err msg c ao1 n1 cap1 lo1 hi1 w1 HG1.out).mono ?_
    rintro e w2 ⟨rfl, hb2⟩
    have HT2 := hide (HT1.out.below hb2 (by omega))
    have HB2 := hide (HB1.out.trans (hb2.mono (by omega)))
    obtain ⟨g0, g1, g2⟩ := HT2.out.c
    have z0 := HT2.out.fz 0
    have z1 := HT2.out.fz 1
    have z2 := HT2.out.fz 2
    clear hb2 HT1 HB1 HG1
    unfold zeroG
    go_wp2
    refine bodyPost_ret (v := .tuple #[.agg #[.slice none 0 0, .int .i64 0, .int .i64 0], .int .i64 c]) (by simp [results, Tryd.results24, go_sem, g0, g1, g2]) rfl ?_
    exact ⟨none, 0, rfl, World.ownsRow_nil _ _ _ _, ((HB2.out.setCell (by simp) _).setCell (by simp) _).setCell (by simp) _⟩
  | ok q =>
    obtain ⟨cs, lo', hi'⟩ := q
    rintro e w1 ⟨hb1, ao1, cap1, rfl, ho1⟩
    have hs1 := hb1.size
    have HT1 := hide (HT0.out.below hb1 (by omega))
    have HB1 := hide (HB0.out.trans (hb1.mono (by omega)))
    have HO1 := hide ho1
    obtain ⟨m, hm⟩ : ∃ m, m = cs.length := ⟨_, rfl⟩
    rw [← hm] at HO1
    have HM := hide hm
    rw [← hm]
    clear hb1 HJ HT0 HB0 HG ho1 hm
    go_wp2_with fail
    refine (answer_ok ao1 m cap1 lo' hi' w1).mono ?_
    rintro e w2 ⟨rfl, hb2⟩
    have HT2 := hide (HT1.out.below hb2 (by omega))
    have HB2 := hide (HB1.out.trans (hb2.mono (by omega)))
    have HO2 := hide (owns_below HO1.out hb2 (Nat.le_refl _))
    obtain ⟨g0, g1, g2⟩ := HT2.out.c
    have z0 := HT2.out.fz 0
    have z1 := HT2.out.fz 1
    have z2 := HT2.out.fz 2
    have HOF := hide (owns_base (base' := w.heap.size) (owns_set3 (b := w.heap.size + 1) HO2.out (by omega) (.slice ao1 m cap1) (.int .i64 lo') (.int .i64 hi')) (by omega))
    clear hb2 HT1 HB1 HO1
    go_wp2
    refine bodyPost_ret (v := .tuple #[.agg #[.slice ao1 m cap1, .int .i64 lo', .int .i64 hi'], .int .i64 0]) (by simp [results, Tryd.results24, go_sem, g0, g1, g2]) rfl ?_
    refine ⟨ao1, cap1, by simp only [faceG]; rw [← HM.out], by simp only [faceG]; rw [← HM.out]; exact HOF.out, ((HB2.out.setCell (by simp) _).setCell (by simp) _).setCell (by simp) _⟩

theorem delR_ok {zs : List Int} {lo hi a b : Nat} (hk : GV zs lo hi) (hab : a ≤ b) (hb : b + (hi - lo) ≤ zs.length) : delR zs lo hi a b = .ok (glay ((gtext zs lo hi).take a ++ (gtext zs lo hi).drop b) a zs.length, a, ((b + (hi - lo) : Nat) : Int)) := by
  have h1 := hk.a
  have h2 := hk.b
  unfold delR
  rw [if_pos (gok_gv.2 hk), if_pos (by omega)]
  simp only [Int.toNat_natCast]
  congr 3
  omega
theorem delR_out {zs : List Int} {lo hi : Nat} {a b : Int} (hk : GV zs lo hi) (hr : ¬ ((0 ≤ b ∧ b ≤ (zs.length : Int) - ((hi : Int) - (lo : Int))) ∧ (0 ≤ a ∧ a ≤ b))) : delR zs lo hi a b = .error 2 := by
  unfold delR
  rw [if_pos (gok_gv.2 hk), if_neg hr]
theorem delR_bad {zs : List Int} {lo hi a b : Int} (hk : ¬ gok zs lo hi) : delR zs lo hi a b = .error 1 := by
  unfold delR
  rw [if_neg hk]

theorem deleteRunesN (zs : List Int) (v : Value) (lo hi a b : Int) (w : World) (h : Gs w v zs) (hn : zs.length ≤ 1048576) :
    Calls Tryd.prog 54 #[.agg #[v, .int .i64 lo, .int .i64 hi], .int .i64 a, .int .i64 b] w (EditPost w (delR zs lo hi a b)) := by
  by_cases hk : gok zs lo hi
  · obtain ⟨l, k, rfl, rfl, hv⟩ := gok_nat hk
    by_cases hr : (0 ≤ b ∧ b ≤ (zs.length : Int) - ((k : Int) - l)) ∧ (0 ≤ a ∧ a ≤ b)
    · obtain ⟨⟨hb0, hb1⟩, ha0, ha1⟩ := hr
      obtain ⟨a, rfl⟩ := Int.eq_ofNat_of_zero_le ha0
      obtain ⟨b, rfl⟩ := Int.eq_ofNat_of_zero_le hb0
      have h1 := hv.a
      have h2 := hv.b
      rw [delR_ok hv (by omega) (by omega)]
      exact deleteRunes_ok zs v l k a b w h hv (by omega) (by omega)
    · rw [delR_out hv hr]
      exact deleteRunes_out zs v l k a b w h hv hr
  · rw [delR_bad hk]
    exact deleteRunes_bad zs v lo hi a b w h hn hk

theorem implGapDelete (zs : List Int) (v : Value) (lo hi a b : Int) (w : World) (h : Gs w v zs) (hn : zs.length ≤ 1048576) (hg : w.cell? ⟨0, 0, none⟩ = some (.iface 186 (.agg #[.pointer (some ⟨1, 83, none⟩)]))) :
    Calls Tryd.prog 24 #[.agg #[v, .int .i64 lo, .int .i64 hi], .int .i64 a, .int .i64 b] w (FacePost w (faceG (delR zs lo hi a b))) := by
  obtain ⟨ao, cap, rfl⟩ := h.val
  exact faceDel _ ao zs.length cap lo hi a b w hg (hide fun w' hb => deleteRunesN zs _ lo hi a b w' (h.below hb (Nat.le_refl _)) hn)
end Go.Proofs.YtlcgdfompbkphacDoor
