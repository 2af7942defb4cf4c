import Derived.Test.YtbgngikejgihgafGreatDoorProg
import Derived.Test.YtbgngikejgihgafGreatDoorMq01
import Derived.WalkKit
import Derived.WalkLawsBesides
import Derived.Test.YtbgngikejgihgafGreatDoorMq13
namespace Go.Proofs.YtbgngikejgihgafGreatDoor
open Go Go.RowKit

theorem Tryz.info32 : (Tryz.prog.info? 21).map (fun i => (i.zero, i.size, i.bytes)) = some (some (.int .i32 0), 1, 4) := by kernel_rfl

set_option maxHeartbeats 400000 in
theorem to32 (zs : List Int) (v : Value) (w : World) (h : Rd .i32 w v zs) (hn : zs.length ≤ 1099511627776) :
    Calls Tryz.prog 125 #[v] w fun e w' => e = .returned (.slice (some ⟨w.heap.size, 0, none⟩) zs.length zs.length) ∧
      w'.ownsRow w.heap.size 21 1 (.slice (some ⟨w.heap.size, 0, none⟩) zs.length zs.length) zs.length (ints .i32 zs) ∧ Below w.heap.size w w' := by
  obtain ⟨i0, hi, hz0, hz1, hz2⟩ := info_parts Tryz.info32
  rcases h with ⟨ao, cap, rfl, rfl⟩ | ⟨b, off, cap, rfl, hp, hc⟩
  · go_enter Tryz.func125, Tryz.ntmps125
    go_wp2_with (at_make; refine wpList_make_full _ rfl _ _ 25 rfl w.heap.size 21 i0 (.int .i32 0) 1 Tryz.underlying25 hi hz0 hz1 .i64 .i64 _ _ 0 rfl rfl (by omega) (by omega) (by rw [hz2]; omega) (by unfold maxLen; omega) (Nat.le_refl _) ?_; intro w1 hown hgrow)
    rw [made_ints] at hown
    refine wp_loop_rounds 1 ?_
    rw [rounds_succ]
    go_wp2
    go_ret
    exact ⟨rfl, hown, (Below.refl _ _).grown hgrow (Nat.le_refl _) (fun k hk => by cases hk)⟩
  · have hcB : b < w.heap.size := World.block_lt_of_cell? w _ (hc 0 hp.1)
    go_enter Tryz.func125, Tryz.ntmps125
    go_wp2_with (at_make; refine wpList_make_full _ rfl _ _ 25 rfl w.heap.size 21 i0 (.int .i32 0) 1 Tryz.underlying25 hi hz0 hz1 .i64 .i64 _ _ zs.length rfl rfl (by omega) (by omega) (by rw [hz2]; omega) (by unfold maxLen; omega) (Nat.le_refl _) ?_; intro w1 hown hgrow)
    rw [made_ints] at hown
    have hb1 : Below w.heap.size w w1 := (Below.refl _ _).grown hgrow (Nat.le_refl _) (fun k hk => by cases hk)
    have HO : Hid (w1.ownsRow w.heap.size 21 1 (.slice (some ⟨w.heap.size, 0, none⟩) zs.length zs.length) zs.length (ints .i32 (List.replicate zs.length 0))) := hown
    have HC : Hid (∀ i, i < zs.length → w.cell? ⟨b, off + i, none⟩ = some (.int .i32 (zs.getD i 0))) := hc
    clear hown hgrow hc
    go_loopw [4] (fun i wr => ∃ k : Nat, k ≤ zs.length ∧ i = .int .i64 k ∧ wr.ownsRow w.heap.size 21 1 (.slice (some ⟨w.heap.size, 0, none⟩) zs.length zs.length) zs.length (ints .i32 (zs.take k ++ List.replicate (zs.length - k) 0)) ∧ Below w.heap.size w wr)
      (fun i _ => zs.length - (intOf i).toNat)
    case atStart => exact ⟨0, Nat.zero_le _, rfl, by simpa using HO.out, hb1⟩
    case round =>
      obtain ⟨k, hk, rfl, hown, hb⟩ := hrel
      by_cases hlt : k < zs.length
      · have hx : wr.cell? ⟨b, off + k, none⟩ = some (.int .i32 (zs.getD k 0)) := (hb.cell (p := ⟨b, off + k, none⟩) hcB).trans (HC.out k hlt)
        have hy : wr.cell? ⟨w.heap.size, k, none⟩ = some (.int .i32 ((zs.take k ++ List.replicate (zs.length - k) 0).getD k 0)) := by
          exact owns_cell hown k hlt
        have hf : wr.frozen? ⟨w.heap.size, k, none⟩ = false := hown.frozenAt k
        have hst := hown.stored k (.int .i32 (zs.getD k 0))
        rw [ints_set, getD_take_append hlt] at hst
        generalize zs.getD k 0 = z at hx hst
        generalize (zs.take k ++ List.replicate (zs.length - k) 0).getD k 0 = z' at hy
        have HS := hide hst
        have HB := hide hb
        clear hst hb hown
        go_wp2
        go_roundw
        case rel => exact ⟨k + 1, by omega, by go_num, HS.out.1, HB.out.setCell (Nat.le_refl _) _⟩
        case measure => simp [intOf]; omega
      · obtain rfl : k = zs.length := by omega
        rw [List.take_length, Nat.sub_self, List.replicate_zero, List.append_nil] at hown
        have HO2 := hide hown
        have HB := hide hb
        clear hb hown
        go_wp2
        go_ret
        exact ⟨rfl, HO2.out, HB.out⟩
end Go.Proofs.YtbgngikejgihgafGreatDoor

namespace Go.Proofs.YtbgngikejgihgafGreatDoor
open Go Go.RowKit
set_option linter.unusedVariables false

theorem Rd.val {k : IntKind} {w : World} {v : Value} {zs : List Int} (h : Rd k w v zs) : ∃ ao cap, v = .slice ao zs.length cap := by
  rcases h with ⟨ao, cap, rfl, rfl⟩ | ⟨b, off, cap, rfl, _⟩
  · exact ⟨_, _, rfl⟩
  · exact ⟨_, _, rfl⟩

set_option maxHeartbeats 1000000 in
theorem szInt32N (ao : Option Addr) (n cap : Nat) (l : Int) (w : World) (h0 : 0 ≤ l) (h1 : l ≤ 1048576) (hn : n ≤ maxLen) :
    Calls Tryz.prog 123 #[.slice ao n cap, .int .i64 l] w fun e w' => e = .returned (.int .i64 (if l - n < 0 then -1 else l - n)) ∧ w' = w := by
  unfold maxLen at hn
  by_cases h : l - n < 0
  · rw [if_pos h]
    go_enter Tryz.func123, Tryz.ntmps123
    go_wp2
    go_ret
    exact ⟨rfl, rfl⟩
  · rw [if_neg h]
    go_enter Tryz.func123, Tryz.ntmps123
    go_wp2
    go_ret
    exact ⟨rfl, rfl⟩

set_option maxHeartbeats 1000000 in
theorem szGapN (ao : Option Addr) (n cap : Nat) (lo hi l : Int) (w : World) (h0 : 0 ≤ l) (h1 : l ≤ 1048576) (hn : n ≤ maxLen) :
    Calls Tryz.prog 97 #[.agg #[.slice ao n cap, .int .i64 lo, .int .i64 hi], .int .i64 l] w fun e w' => e = .returned (.int .i64 (if l - n < 0 then -1 else l - n)) ∧ Below w.heap.size w w' := by
  have HK := hide (fun w => szInt32N ao n cap l w h0 h1 hn)
  have HB := hide ((Below.refl w.heap.size w).alloc (Nat.le_refl _) (.cells #[.slice ao n cap, .int .i64 lo, .int .i64 hi] 167))
  clear hn
  by_cases h : l - n < 0
  · rw [if_pos h] at HK ⊢
    clear h
    go_enter Tryz.func97, Tryz.ntmps97
    go_wp2_with fail
    refine (HK.out _).mono ?_
    rintro e w1 ⟨rfl, rfl⟩
    go_wp2
    go_ret
    exact ⟨rfl, HB.out⟩
  · rw [if_neg h] at HK ⊢
    obtain ⟨d, hd⟩ : ∃ d, d = l - n := ⟨_, rfl⟩
    rw [← hd] at HK h ⊢
    clear hd
    go_enter Tryz.func97, Tryz.ntmps97
    go_wp2_with fail
    refine (HK.out _).mono ?_
    rintro e w1 ⟨rfl, rfl⟩
    go_wp2
    go_ret
    exact ⟨rfl, HB.out⟩

set_option maxHeartbeats 1000000 in
theorem toGapN (zs : List Int) (v : Value) (lo hi : Int) (w : World) (h : Rd .i32 w v zs) (hn : zs.length ≤ 1048576) :
    Calls Tryz.prog 99 #[.agg #[v, .int .i64 lo, .int .i64 hi]] w fun e w' => ∃ g, w.heap.size ≤ g ∧ e = .returned (.agg #[.slice (some ⟨g, 0, none⟩) zs.length zs.length, .int .i64 lo, .int .i64 hi]) ∧ w'.ownsRow w.heap.size 21 1 (.slice (some ⟨g, 0, none⟩) zs.length zs.length) zs.length (ints .i32 zs) ∧ Below w.heap.size w w' := by
  obtain ⟨ao, cap, rfl⟩ := h.val
  have HB0 := hide ((((Below.refl w.heap.size w).alloc (Nat.le_refl _) (.cells #[.slice ao zs.length cap, .int .i64 lo, .int .i64 hi] 167)).alloc (by simp) (.cells #[.slice none 0 0, .int .i64 0, .int .i64 0] 92)).alloc (by simp; omega) (.cells #[.slice none 0 0, .int .i64 0, .int .i64 0] 92))
  have HI := hide (to32 zs _ _ (h.below HB0.out) (by omega))
  have HT0 := hide (T3.new ((w.alloc (.cells #[.slice ao zs.length cap, .int .i64 lo, .int .i64 hi] 167)).alloc (.cells #[.slice none 0 0, .int .i64 0, .int .i64 0] 92)) (.slice none 0 0) (.int .i64 0) (.int .i64 0) 92)
  have HR0 := hide ((T3.new (w.alloc (.cells #[.slice ao zs.length cap, .int .i64 lo, .int .i64 hi] 167)) (.slice none 0 0) (.int .i64 0) (.int .i64 0) 92).below ((Below.refl _ _).alloc (Nat.le_refl _) (.cells #[.slice none 0 0, .int .i64 0, .int .i64 0] 92)) (by simp))
  have HP0 := hide (((T3.new w (.slice ao zs.length cap) (.int .i64 lo) (.int .i64 hi) 167).below ((Below.refl _ _).alloc (Nat.le_refl _) (.cells #[.slice none 0 0, .int .i64 0, .int .i64 0] 92)) (by simp)).below ((Below.refl _ _).alloc (Nat.le_refl _) (.cells #[.slice none 0 0, .int .i64 0, .int .i64 0] 92)) (by simp; omega))
  have hs0 : (((w.alloc (.cells #[.slice ao zs.length cap, .int .i64 lo, .int .i64 hi] 167)).alloc (.cells #[.slice none 0 0, .int .i64 0, .int .i64 0] 92)).alloc (.cells #[.slice none 0 0, .int .i64 0, .int .i64 0] 92)).heap.size = w.heap.size + 3 := by simp
  have es1 : ((w.alloc (.cells #[.slice ao zs.length cap, .int .i64 lo, .int .i64 hi] 167)).alloc (.cells #[.slice none 0 0, .int .i64 0, .int .i64 0] 92)).heap.size = w.heap.size + 2 := by simp
  have es2 : (w.alloc (.cells #[.slice ao zs.length cap, .int .i64 lo, .int .i64 hi] 167)).heap.size = w.heap.size + 1 := by simp
  rw [es1] at HT0
  rw [es2] at HR0
  rw [hs0] at HI
  generalize zs.length = n at *
  clear es1 es2 h
  go_enter Tryz.func99, Tryz.ntmps99
  go_wp2_with fail
  generalize ((w.alloc (.cells #[.slice ao n cap, .int .i64 lo, .int .i64 hi] 167)).alloc (.cells #[.slice none 0 0, .int .i64 0, .int .i64 0] 92)).alloc (.cells #[.slice none 0 0, .int .i64 0, .int .i64 0] 92) = w0 at *
  refine HI.out.mono ?_
  rintro e w1 ⟨rfl, ho1, hb1⟩
  have HT1 := hide (HT0.out.below hb1 (by omega))
  have HR1 := hide (HR0.out.below hb1 (by omega))
  have HP1 := hide (HP0.out.below hb1 (by omega))
  have HB1 := hide (HB0.out.trans (hb1.mono (by omega)))
  have HO1 := hide ho1
  obtain ⟨g0, g1, g2⟩ := HT1.out.c
  obtain ⟨p0, p1, p2⟩ := HP1.out.c
  obtain ⟨r0, r1, r2⟩ := HR1.out.c
  have z0 := HT1.out.fz 0
  have z1 := HT1.out.fz 1
  have z2 := HT1.out.fz 2
  have y0 := HR1.out.fz 0
  have y1 := HR1.out.fz 1
  have y2 := HR1.out.fz 2
  have hl0 := HT1.out.lt
  clear ho1 hb1 HI HT0 HB0 HP0 HR0
  go_wp2
  refine bodyPost_ret (v := .agg #[.slice (some ⟨w.heap.size + 3, 0, none⟩) n n, .int .i64 lo, .int .i64 hi]) (by simp [results, Tryz.results99, go_sem, r0, r1, r2]) rfl ?_
  refine ⟨w.heap.size + 3, by omega, rfl, ?_, ?_⟩
  · have hne : ∀ b j, b < w.heap.size + 3 → (Value.slice (some ⟨w.heap.size + 3, 0, none⟩) n n).ownBlock ≠ some (⟨b, j, none⟩ : Addr).block := by
      intro b j hb hk
      simp only [Value.ownBlock, Option.some.injEq] at hk
      omega
    exact owns_base (ownsRow_setCell_other (ownsRow_setCell_other (ownsRow_setCell_other (ownsRow_setCell_other (ownsRow_setCell_other (ownsRow_setCell_other HO1.out (hne _ _ (by omega)) _) (hne _ _ (by omega)) _) (hne _ _ (by omega)) _) (hne _ _ (by omega)) _) (hne _ _ (by omega)) _) (hne _ _ (by omega)) _) (by omega)
  · exact (((((HB1.out.setCell (by simp <;> omega) _).setCell (by simp <;> omega) _).setCell (by simp <;> omega) _).setCell (by simp <;> omega) _).setCell (by simp <;> omega) _).setCell (by simp <;> omega) _

end Go.Proofs.YtbgngikejgihgafGreatDoor
