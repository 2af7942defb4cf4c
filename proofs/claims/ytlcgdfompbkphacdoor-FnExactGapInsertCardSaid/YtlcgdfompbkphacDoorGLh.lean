import Derived.Test.YtlcgdfompbkphacDoorGT3
import Derived.Test.YtlcgdfompbkphacDoorTo32
import Derived.Test.YtlcgdfompbkphacDoorEq32
import Derived.Test.YtlcgdfompbkphacDoorMark32
import Derived.WalkKit
import Derived.WalkLawsBesides
namespace Go.Proofs.YtlcgdfompbkphacDoor
open Go Go.RowKit
set_option linter.unusedVariables false

theorem eq32b (xs : List Int) (v u : Value) (w : World) (h1 : Rd .i32 w v xs) (h2 : Rd .i32 w u xs) (hn : xs.length ≤ 1099511627776) :
    Calls Tryd.prog 19 #[v, u] w fun e w' => e = .returned (.bool true) ∧ Below w.heap.size w w' :=
  (eq32 xs v u w h1 h2 hn).mono fun e w' ⟨he, n, hw⟩ => ⟨he, by subst hw; exact ⟨rfl, rfl, rfl, Nat.le_refl _, fun _ _ => rfl⟩⟩

theorem Rd.val {k : IntKind} {w : World} {v : Value} {zs : List Int} (h : Rd k w v zs) : ∃ ao cap, v = .slice ao zs.length cap := by
  rcases h with ⟨ao, cap, rfl, rfl⟩ | ⟨b, off, cap, rfl, _⟩
  · exact ⟨_, _, rfl⟩
  · exact ⟨_, _, rfl⟩

set_option maxHeartbeats 1000000 in
theorem szInt32N (ao : Option Addr) (n cap : Nat) (l : Int) (w : World) (h0 : 0 ≤ l) (h1 : l ≤ 1048576) (hn : n ≤ maxLen) :
    Calls Tryd.prog 47 #[.slice ao n cap, .int .i64 l] w fun e w' => e = .returned (.int .i64 (if l - n < 0 then -1 else l - n)) ∧ w' = w := by
  unfold maxLen at hn
  by_cases h : l - n < 0
  · rw [if_pos h]
    go_enter Tryd.func47, Tryd.ntmps47
    go_wp2
    go_ret
    exact ⟨rfl, rfl⟩
  · rw [if_neg h]
    go_enter Tryd.func47, Tryd.ntmps47
    go_wp2
    go_ret
    exact ⟨rfl, rfl⟩

set_option maxHeartbeats 1000000 in
theorem szGapN (ao : Option Addr) (n cap : Nat) (lo hi l : Int) (w : World) (h0 : 0 ≤ l) (h1 : l ≤ 1048576) (hn : n ≤ maxLen) :
    Calls Tryd.prog 13 #[.agg #[.slice ao n cap, .int .i64 lo, .int .i64 hi], .int .i64 l] w fun e w' => e = .returned (.int .i64 (if l - n < 0 then -1 else l - n)) ∧ Below w.heap.size w w' := by
  have HK := hide (fun w => szInt32N ao n cap l w h0 h1 hn)
  have HB := hide ((Below.refl w.heap.size w).alloc (Nat.le_refl _) (.cells #[.slice ao n cap, .int .i64 lo, .int .i64 hi] 36))
  clear hn
  by_cases h : l - n < 0
  · rw [if_pos h] at HK ⊢
    clear h
    go_enter Tryd.func13, Tryd.ntmps13
    go_wp2_with fail
    refine (HK.out _).mono ?_
    rintro e w1 ⟨rfl, rfl⟩
    go_wp2
    go_ret
    exact ⟨rfl, HB.out⟩
  · rw [if_neg h] at HK ⊢
    obtain ⟨d, hd⟩ : ∃ d, d = l - n := ⟨_, rfl⟩
    rw [← hd] at HK h ⊢
    clear hd
    go_enter Tryd.func13, Tryd.ntmps13
    go_wp2_with fail
    refine (HK.out _).mono ?_
    rintro e w1 ⟨rfl, rfl⟩
    go_wp2
    go_ret
    exact ⟨rfl, HB.out⟩

set_option maxHeartbeats 1000000 in
theorem toGapN (zs : List Int) (v : Value) (lo hi : Int) (w : World) (h : Rd .i32 w v zs) (hn : zs.length ≤ 1048576) :
    Calls Tryd.prog 15 #[.agg #[v, .int .i64 lo, .int .i64 hi]] w fun e w' => ∃ g, w.heap.size ≤ g ∧ e = .returned (.agg #[.slice (some ⟨g, 0, none⟩) zs.length zs.length, .int .i64 lo, .int .i64 hi]) ∧ w'.ownsRow w.heap.size 21 1 (.slice (some ⟨g, 0, none⟩) zs.length zs.length) zs.length (ints .i32 zs) ∧ Below w.heap.size w w' := by
  obtain ⟨ao, cap, rfl⟩ := h.val
  have HB0 := hide ((((Below.refl w.heap.size w).alloc (Nat.le_refl _) (.cells #[.slice ao zs.length cap, .int .i64 lo, .int .i64 hi] 36)).alloc (by simp) (.cells #[.slice none 0 0, .int .i64 0, .int .i64 0] 38)).alloc (by simp; omega) (.cells #[.slice none 0 0, .int .i64 0, .int .i64 0] 38))
  have HI := hide (to32 zs _ _ (h.below HB0.out) (by omega))
  have HT0 := hide (T3.new ((w.alloc (.cells #[.slice ao zs.length cap, .int .i64 lo, .int .i64 hi] 36)).alloc (.cells #[.slice none 0 0, .int .i64 0, .int .i64 0] 38)) (.slice none 0 0) (.int .i64 0) (.int .i64 0) 38)
  have HR0 := hide ((T3.new (w.alloc (.cells #[.slice ao zs.length cap, .int .i64 lo, .int .i64 hi] 36)) (.slice none 0 0) (.int .i64 0) (.int .i64 0) 38).below ((Below.refl _ _).alloc (Nat.le_refl _) (.cells #[.slice none 0 0, .int .i64 0, .int .i64 0] 38)) (by simp))
  have HP0 := hide (((T3.new w (.slice ao zs.length cap) (.int .i64 lo) (.int .i64 hi) 36).below ((Below.refl _ _).alloc (Nat.le_refl _) (.cells #[.slice none 0 0, .int .i64 0, .int .i64 0] 38)) (by simp)).below ((Below.refl _ _).alloc (Nat.le_refl _) (.cells #[.slice none 0 0, .int .i64 0, .int .i64 0] 38)) (by simp; omega))
  have hs0 : (((w.alloc (.cells #[.slice ao zs.length cap, .int .i64 lo, .int .i64 hi] 36)).alloc (.cells #[.slice none 0 0, .int .i64 0, .int .i64 0] 38)).alloc (.cells #[.slice none 0 0, .int .i64 0, .int .i64 0] 38)).heap.size = w.heap.size + 3 := by simp
  have es1 : ((w.alloc (.cells #[.slice ao zs.length cap, .int .i64 lo, .int .i64 hi] 36)).alloc (.cells #[.slice none 0 0, .int .i64 0, .int .i64 0] 38)).heap.size = w.heap.size + 2 := by simp
  have es2 : (w.alloc (.cells #[.slice ao zs.length cap, .int .i64 lo, .int .i64 hi] 36)).heap.size = w.heap.size + 1 := by simp
  rw [es1] at HT0
  rw [es2] at HR0
  rw [hs0] at HI
  generalize zs.length = n at *
  clear es1 es2 h
  go_enter Tryd.func15, Tryd.ntmps15
  go_wp2_with fail
  generalize ((w.alloc (.cells #[.slice ao n cap, .int .i64 lo, .int .i64 hi] 36)).alloc (.cells #[.slice none 0 0, .int .i64 0, .int .i64 0] 38)).alloc (.cells #[.slice none 0 0, .int .i64 0, .int .i64 0] 38) = w0 at *
  refine HI.out.mono ?_
  rintro e w1 ⟨rfl, ho1, hb1⟩
  have HT1 := hide (HT0.out.below hb1 (by omega))
  have HR1 := hide (HR0.out.below hb1 (by omega))
  have HP1 := hide (HP0.out.below hb1 (by omega))
  have HB1 := hide (HB0.out.trans (hb1.mono (by omega)))
  have HO1 := hide ho1
  obtain ⟨g0, g1, g2⟩ := HT1.out.c
  obtain ⟨p0, p1, p2⟩ := HP1.out.c
  obtain ⟨r0, r1, r2⟩ := HR1.out.c
  have z0 := HT1.out.fz 0
  have z1 := HT1.out.fz 1
  have z2 := HT1.out.fz 2
  have y0 := HR1.out.fz 0
  have y1 := HR1.out.fz 1
  have y2 := HR1.out.fz 2
  have hl0 := HT1.out.lt
  clear ho1 hb1 HI HT0 HB0 HP0 HR0
  go_wp2
  refine bodyPost_ret (v := .agg #[.slice (some ⟨w.heap.size + 3, 0, none⟩) n n, .int .i64 lo, .int .i64 hi]) (by simp [results, Tryd.results15, go_sem, r0, r1, r2]) rfl ?_
  refine ⟨w.heap.size + 3, by omega, rfl, ?_, ?_⟩
  · have hne : ∀ b j, b < w.heap.size + 3 → (Value.slice (some ⟨w.heap.size + 3, 0, none⟩) n n).ownBlock ≠ some (⟨b, j, none⟩ : Addr).block := by
      intro b j hb hk
      simp only [Value.ownBlock, Option.some.injEq] at hk
      omega
    exact owns_base (ownsRow_setCell_other (ownsRow_setCell_other (ownsRow_setCell_other (ownsRow_setCell_other (ownsRow_setCell_other (ownsRow_setCell_other HO1.out (hne _ _ (by omega)) _) (hne _ _ (by omega)) _) (hne _ _ (by omega)) _) (hne _ _ (by omega)) _) (hne _ _ (by omega)) _) (hne _ _ (by omega)) _) (by omega)
  · exact (((((HB1.out.setCell (by simp <;> omega) _).setCell (by simp <;> omega) _).setCell (by simp <;> omega) _).setCell (by simp <;> omega) _).setCell (by simp <;> omega) _).setCell (by simp <;> omega) _

set_option maxHeartbeats 1000000 in
theorem eqGapN (xs : List Int) (v u : Value) (lo hi : Int) (w : World) (h1 : Rd .i32 w v xs) (h2 : Rd .i32 w u xs) (hn : xs.length ≤ 1048576) :
    Calls Tryd.prog 18 #[.agg #[v, .int .i64 lo, .int .i64 hi], .agg #[u, .int .i64 lo, .int .i64 hi]] w fun e w' => e = .returned (.bool true) ∧ Below w.heap.size w w' := by
  obtain ⟨ao, cap, rfl⟩ := h1.val
  obtain ⟨ao', cap', rfl⟩ := h2.val
  have HB0 := hide (((Below.refl w.heap.size w).alloc (Nat.le_refl _) (.cells #[.slice ao xs.length cap, .int .i64 lo, .int .i64 hi] 38)).alloc (by simp) (.cells #[.slice ao' xs.length cap', .int .i64 lo, .int .i64 hi] 38))
  have HI := hide (eq32b xs _ _ _ (h1.below HB0.out) (h2.below HB0.out) (by omega))
  have HA0 := hide ((T3.new w (.slice ao xs.length cap) (.int .i64 lo) (.int .i64 hi) 38).below ((Below.refl _ _).alloc (Nat.le_refl _) (.cells #[.slice ao' xs.length cap', .int .i64 lo, .int .i64 hi] 38)) (by simp))
  have HC0 := hide (T3.new (w.alloc (.cells #[.slice ao xs.length cap, .int .i64 lo, .int .i64 hi] 38)) (.slice ao' xs.length cap') (.int .i64 lo) (.int .i64 hi) 38)
  have es : (w.alloc (.cells #[.slice ao xs.length cap, .int .i64 lo, .int .i64 hi] 38)).heap.size = w.heap.size + 1 := by simp
  have hs0 : ((w.alloc (.cells #[.slice ao xs.length cap, .int .i64 lo, .int .i64 hi] 38)).alloc (.cells #[.slice ao' xs.length cap', .int .i64 lo, .int .i64 hi] 38)).heap.size = w.heap.size + 2 := by simp
  rw [es] at HC0
  generalize xs.length = n at *
  have q1 : (lo != lo) = false := by simp
  have q2 : (hi != hi) = false := by simp
  clear es h1 h2
  go_enter Tryd.func18, Tryd.ntmps18
  go_wp2_with fail
  generalize (w.alloc (.cells #[.slice ao n cap, .int .i64 lo, .int .i64 hi] 38)).alloc (.cells #[.slice ao' n cap', .int .i64 lo, .int .i64 hi] 38) = w0 at *
  refine HI.out.mono ?_
  rintro e w1 ⟨rfl, hb1⟩
  have HA1 := hide (HA0.out.below hb1 (by omega))
  have HC1 := hide (HC0.out.below hb1 (by omega))
  have HB1 := hide (HB0.out.trans (hb1.mono (by omega)))
  obtain ⟨g0, g1, g2⟩ := HA1.out.c
  obtain ⟨p0, p1, p2⟩ := HC1.out.c
  clear hb1 HI HA0 HB0 HC0
  go_wp2
  go_ret
  exact ⟨rfl, HB1.out⟩

set_option maxHeartbeats 1000000 in
theorem markGapN (zs : List Int) (ao : Option Addr) (m cap : Nat) (lo hi_ : Int) (base : Nat) (n : Nat) (k0 : Int) (w : World) (h : w.ownsRow base 21 1 (.slice ao m cap) n (ints .i32 zs)) (hn : n ≤ 1048576) (h0 : 0 ≤ k0) (h1 : k0 ≤ 1048576) :
    Calls Tryd.prog 20 #[.agg #[.slice ao m cap, .int .i64 lo, .int .i64 hi_], .int .i64 k0] w fun e w' => e = .returned (.int .i64 (k0 + n)) ∧
      w'.ownsRow base 21 1 (.slice ao m cap) n (ints .i32 (marks .i32 k0 n)) ∧ w.grownBy w' (Value.slice ao m cap).ownBlock := by
  have HG0 := hide (show w.grownBy (w.alloc (.cells #[.slice ao m cap, .int .i64 lo, .int .i64 hi_] 38)) (Value.slice ao m cap).ownBlock from ⟨rfl, rfl, rfl, by simp, fun i hi _ => ((Below.refl w.heap.size w).alloc (Nat.le_refl _) (.cells #[.slice ao m cap, .int .i64 lo, .int .i64 hi_] 38)).block i hi⟩)
  have HI := hide (mark32 zs _ base n k0 _ (owns_below h ((Below.refl w.heap.size w).alloc (Nat.le_refl _) (.cells #[.slice ao m cap, .int .i64 lo, .int .i64 hi_] 38)) (Nat.le_refl _)) (by omega) h0 (by omega))
  clear h
  go_enter Tryd.func20, Tryd.ntmps20
  go_wp2_with fail
  generalize w.alloc (.cells #[.slice ao m cap, .int .i64 lo, .int .i64 hi_] 38) = w0 at *
  refine HI.out.mono ?_
  rintro e w1 ⟨rfl, ho1, hg1⟩
  have HO1 := hide ho1
  have HG1 := hide (grown_trans HG0.out hg1)
  clear ho1 hg1 HG0 HI
  go_wp2
  go_ret
  exact ⟨rfl, HO1.out, HG1.out⟩
end Go.Proofs.YtlcgdfompbkphacDoor
