import Derived.Test.YtlcgdfompbkphacDoorGInsI
import Derived.WalkKit
import Derived.WalkLawsBesides
namespace Go.Proofs.YtlcgdfompbkphacDoor
open Go Go.RowKit
set_option linter.unusedVariables false

set_option maxHeartbeats 2000000 in
set_option maxRecDepth 100000 in
theorem faceIns (r : Except Int (List Int × Int × Int)) (ao : Option Addr) (n cap : Nat) (lo hi a : Int) (ap : Option Addr) (mt cp : Nat) (w : World) (hg : w.cell? ⟨0, 0, none⟩ = some (.iface 186 (.agg #[.pointer (some ⟨1, 83, none⟩)])))
    (HI : Hid (∀ w', Below w.heap.size w w' → Calls Tryd.prog 51 #[.agg #[.slice ao n cap, .int .i64 lo, .int .i64 hi], .int .i64 a, .slice ap mt cp] w' (EditPost w' r))) :
    Calls Tryd.prog 17 #[.agg #[.slice ao n cap, .int .i64 lo, .int .i64 hi], .int .i64 a, .slice ap mt cp] w (FacePost w (faceG r)) := by
  have hlt : 0 < w.heap.size := World.block_lt_of_cell? w _ hg
  have HB0 := hide (((Below.refl w.heap.size w).alloc (Nat.le_refl _) (.cells #[.slice ao n cap, .int .i64 lo, .int .i64 hi] 38)).alloc (by simp) (.cells #[.slice none 0 0, .int .i64 0, .int .i64 0] 38))
  have HT0 := hide (T3.new (w.alloc (.cells #[.slice ao n cap, .int .i64 lo, .int .i64 hi] 38)) (.slice none 0 0) (.int .i64 0) (.int .i64 0) 38)
  have es : (w.alloc (.cells #[.slice ao n cap, .int .i64 lo, .int .i64 hi] 38)).heap.size = w.heap.size + 1 := by simp
  have hs0 : ((w.alloc (.cells #[.slice ao n cap, .int .i64 lo, .int .i64 hi] 38)).alloc (.cells #[.slice none 0 0, .int .i64 0, .int .i64 0] 38)).heap.size = w.heap.size + 2 := by simp
  rw [es] at HT0
  have HG := hide ((HB0.out.cell (p := ⟨0, 0, none⟩) hlt).trans hg)
  have HJ := hide (HI.out _ HB0.out)
  clear es hg HI
  go_enter Tryd.func17, Tryd.ntmps17
  go_wp2_with fail
  generalize (w.alloc (.cells #[.slice ao n cap, .int .i64 lo, .int .i64 hi] 38)).alloc (.cells #[.slice none 0 0, .int .i64 0, .int .i64 0] 38) = w0 at *
  refine HJ.out.mono ?_
  cases r with
  | error c =>
    rintro e w1 ⟨hb1, msg, ao1, n1, cap1, lo1, hi1, rfl⟩
    have hs1 := hb1.size
    have HT1 := hide (HT0.out.below hb1 (by omega))
    have HB1 := hide (HB0.out.trans (hb1.mono (by omega)))
    have HG1 := hide ((hb1.cell (p := ⟨0, 0, none⟩) (show 0 < w0.heap.size by omega)).trans HG.out)
    clear hb1 HJ HT0 HB0 HG
    go_wp2_with fail
    refine (answer_err msg c ao1 n1 cap1 lo1 hi1 w1 HG1.out).mono ?_
    rintro e w2 ⟨rfl, hb2⟩
    have HT2 := hide (HT1.out.below hb2 (by omega))
    have HB2 := hide (HB1.out.trans (hb2.mono (by omega)))
    obtain ⟨g0, g1, g2⟩ := HT2.out.c
    have z0 := HT2.out.fz 0
    have z1 := HT2.out.fz 1
    have z2 := HT2.out.fz 2
    clear hb2 HT1 HB1 HG1
    unfold zeroG
    go_wp2
    refine bodyPost_ret (v := .tuple #[.agg #[.slice none 0 0, .int .i64 0, .int .i64 0], .int .i64 c]) (by simp [results, Tryd.results17, go_sem, g0, g1, g2]) rfl ?_
    exact ⟨none, 0, rfl, World.ownsRow_nil _ _ _ _, ((HB2.out.setCell (by simp) _).setCell (by simp) _).setCell (by simp) _⟩
  | ok q =>
    obtain ⟨cs, lo', hi'⟩ := q
    rintro e w1 ⟨hb1, ao1, cap1, rfl, ho1⟩
    have hs1 := hb1.size
    have HT1 := hide (HT0.out.below hb1 (by omega))
    have HB1 := hide (HB0.out.trans (hb1.mono (by omega)))
    have HO1 := hide ho1
    obtain ⟨m, hm⟩ : ∃ m, m = cs.length := ⟨_, rfl⟩
    rw [← hm] at HO1
    have HM := hide hm
    rw [← hm]
    clear hb1 HJ HT0 HB0 HG ho1 hm
    go_wp2_with fail
    refine (answer_ok ao1 m cap1 lo' hi' w1).mono ?_
    rintro e w2 ⟨rfl, hb2⟩
    have HT2 := hide (HT1.out.below hb2 (by omega))
    have HB2 := hide (HB1.out.trans (hb2.mono (by omega)))
    have HO2 := hide (owns_below HO1.out hb2 (Nat.le_refl _))
    obtain ⟨g0, g1, g2⟩ := HT2.out.c
    have z0 := HT2.out.fz 0
    have z1 := HT2.out.fz 1
    have z2 := HT2.out.fz 2
    have HOF := hide (owns_base (base' := w.heap.size) (owns_set3 (b := w.heap.size + 1) HO2.out (by omega) (.slice ao1 m cap1) (.int .i64 lo') (.int .i64 hi')) (by omega))
    clear hb2 HT1 HB1 HO1
    go_wp2
    refine bodyPost_ret (v := .tuple #[.agg #[.slice ao1 m cap1, .int .i64 lo', .int .i64 hi'], .int .i64 0]) (by simp [results, Tryd.results17, go_sem, g0, g1, g2]) rfl ?_
    refine ⟨ao1, cap1, by simp only [faceG]; rw [← HM.out], by simp only [faceG]; rw [← HM.out]; exact HOF.out, ((HB2.out.setCell (by simp) _).setCell (by simp) _).setCell (by simp) _⟩


theorem insR_ok {zs ts : List Int} {lo hi a : Nat} (hk : GV zs lo hi) (ha : a + (hi - lo) ≤ zs.length) (hb : zs.length - (hi - lo) + ts.length ≤ 8192) : insR zs lo hi a ts = .ok (glay ((gtext zs lo hi).take a ++ (ts ++ (gtext zs lo hi).drop a)) (a + ts.length) (cellsN zs lo hi ts.length), ((a + ts.length : Nat) : Int), ((a + (cellsN zs lo hi ts.length - (gtext zs lo hi).length) : Nat) : Int)) := by
  have h1 := hk.a
  have h2 := hk.b
  have hL := gtext_length h1 h2
  have bd := cellsN_bd hk (n := ts.length) (by omega)
  unfold insR
  rw [if_pos (gok_gv.2 hk), if_pos (by omega), if_pos (by omega)]
  simp only [Int.toNat_natCast]
  congr 3
  omega
theorem insR_full {zs ts : List Int} {lo hi : Nat} {a : Int} (hk : GV zs lo hi) (ha : 0 ≤ a ∧ a ≤ (zs.length : Int) - ((hi : Int) - (lo : Int))) (hr : ¬ (zs.length : Int) - ((hi : Int) - (lo : Int)) + ts.length ≤ 8192) : insR zs lo hi a ts = .error 10 := by
  unfold insR
  rw [if_pos (gok_gv.2 hk), if_pos ha, if_neg hr]
theorem insR_out {zs ts : List Int} {lo hi : Nat} {a : Int} (hk : GV zs lo hi) (hr : ¬ (0 ≤ a ∧ a ≤ (zs.length : Int) - ((hi : Int) - (lo : Int)))) : insR zs lo hi a ts = .error 2 := by
  unfold insR
  rw [if_pos (gok_gv.2 hk), if_neg hr]
theorem insR_bad {zs ts : List Int} {lo hi a : Int} (hk : ¬ gok zs lo hi) : insR zs lo hi a ts = .error 1 := by
  unfold insR
  rw [if_neg hk]

theorem insertRunesN (zs ts : List Int) (v : Value) (lo hi a : Int) (ap : Option Addr) (cp : Nat) (w : World) (h : Gs w v zs) (hn : zs.length ≤ 1048576) (hT : Sl .i32 w (.slice ap ts.length cp) ts) :
    Calls Tryd.prog 51 #[.agg #[v, .int .i64 lo, .int .i64 hi], .int .i64 a, .slice ap ts.length cp] w (EditPost w (insR zs lo hi a ts)) := by
  by_cases hk : gok zs lo hi
  · obtain ⟨l, k, rfl, rfl, hv⟩ := gok_nat hk
    have h1 := hv.a
    have h2 := hv.b
    by_cases hr : 0 ≤ a ∧ a ≤ (zs.length : Int) - ((k : Int) - l)
    · by_cases hf : (zs.length : Int) - ((k : Int) - l) + ts.length ≤ 8192
      · obtain ⟨a, rfl⟩ := Int.eq_ofNat_of_zero_le hr.1
        rw [insR_ok hv (by omega) (by omega)]
        exact insertRunes_ok zs v l k a ts ap ts.length cp w h hv rfl hT (by omega) (by omega)
      · rw [insR_full hv hr hf]
        exact insertRunes_full zs v l k a ap ts.length cp w h hv hr hf
    · rw [insR_out hv hr]
      exact insertRunes_out zs v l k a ap ts.length cp w h hv hr
  · rw [insR_bad hk]
    exact insertRunes_bad zs v lo hi a ap ts.length cp w h hn hk

theorem implGapInsert (zs ts : List Int) (v : Value) (lo hi a : Int) (ap : Option Addr) (cp : Nat) (w : World) (h : Gs w v zs) (hn : zs.length ≤ 1048576) (hT : Sl .i32 w (.slice ap ts.length cp) ts) (hg : w.cell? ⟨0, 0, none⟩ = some (.iface 186 (.agg #[.pointer (some ⟨1, 83, none⟩)]))) :
    Calls Tryd.prog 17 #[.agg #[v, .int .i64 lo, .int .i64 hi], .int .i64 a, .slice ap ts.length cp] w (FacePost w (faceG (insR zs lo hi a ts))) := by
  obtain ⟨ao, cap, rfl⟩ := h.val
  exact faceIns _ ao zs.length cap lo hi a ap ts.length cp w hg (hide fun w' hb => insertRunesN zs ts _ lo hi a ap cp w' (h.below hb (Nat.le_refl _)) hn (hT.below hb))
end Go.Proofs.YtlcgdfompbkphacDoor
