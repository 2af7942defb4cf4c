import Derived.Test.YtdjdkgidihhkfabDoorMbDr
import Derived.Laws.AppendOwnNone
import Derived.Deep.RegionWith
import Derived.Deep.Cut
import Derived.Deep.CutRange
import Derived.Deep.CutBlock
import Derived.Deep.DeepCutAuto
namespace Go.Proofs.YtdjdkgidihhkfabDoor
open Go Go.RowKit
set_option linter.unusedVariables false

set_option maxHeartbeats 1000000 in
set_option maxRecDepth 100000 in
theorem cpMarksL (base : Nat) (xs : List Mk) (v : Value) (w : World) (h : OwM w base v xs) (h0 : 0 < xs.length) (hn : xs.length ≤ 4096) :
    Calls Tryd.prog 27 #[v] w fun e w' => ∃ v', e = .returned v' ∧ OwM w' w.heap.size v' xs ∧ Below w.heap.size w w' := by
  obtain ⟨i0, hi, hz0, hz1, hz2⟩ := info_parts Tryd.infoMK
  have HO := hide h
  rcases h.shape with ⟨rfl, rfl⟩ | ⟨g, cap, rfl, hcap, hcm, hbg, hgl⟩
  · simp at h0
  · have hk0 : (w.alloc (.cells #[] 41)).heap[w.heap.size]? = some (.cells #[] 41 (0, 0)) := heap_alloc_new _ _
    have B0 := hide ((Below.refl w.heap.size w).alloc (Nat.le_refl _) (.cells #[] 41))
    have O0 := hide (show (w.alloc (.cells #[] 41)).ownsRow w.heap.size 41 3 (.slice (some ⟨w.heap.size, 0, none⟩) 0 0) 0 [] from ⟨rfl, .inr ⟨_, 0, #[], rfl, Nat.le_refl _, hk0, Nat.le_refl _, by unfold maxLen; omega, rfl, rfl⟩⟩)
    have RC := hide (OwM.cells (show OwM (w.alloc (.cells #[] 41)) base (.slice (some ⟨g, 0, none⟩) xs.length cap) xs from (World.ownsRow.alloc HO.out _)))
    have hs0 : w.heap.size ≤ (w.alloc (.cells #[] 41)).heap.size := by simp
    unfold maxLen at hcm
    clear h hk0
    go_enter Tryd.func27, Tryd.ntmps27
    go_wp2_with (at_builtin; refine wpList_append_own _ rfl _ _ 24 rfl w.heap.size 41 i0 (.agg #[.int .i64 0, .int .i64 0, .int .i64 0]) 3 24 Tryd.underlying24 hi hz0 hz1 hz2 rfl (by decide) (.slice (some ⟨w.heap.size, 0, none⟩) 0 0) 0 [] rfl (by exact O0.out) ⟨g, 0, none⟩ xs.length cap (mkVs xs) rfl (mkVs_length xs) (by exact RC.out) (mkVs_one xs) (by unfold maxLen; omega) (by omega) (by simp) ?_; intro v4 w4 ho4 hg4 _; have O4 := hide (show OwM w4 w.heap.size v4 xs from (by have h9 := ho4; rw [Nat.zero_add, List.nil_append] at h9; exact h9)); have B4 := hide (B0.out.trans ((Below.refl w.heap.size _).grown hg4 (by omega) (own_rowM O0.out))); clear ho4 hg4)
    go_ret
    exact ⟨_, rfl, O4.out, B4.out⟩

theorem drawMarksI (bs : List Int) (vb : Value) (p : Nat) (k : Int) (len : Int) (w : World) (hS : Src bs vb p w) (hk : 0 < k ∧ k ≤ 128) (hl : 0 ≤ len ∧ len ≤ 200) :
    Calls Tryd.prog 25 #[.pointer (some ⟨p, 0, none⟩), .int .i64 k, .int .i64 len] w fun e w' => ∃ v ys, e = .returned v ∧ OwM w' w.heap.size v ys ∧ Vd ys ∧ (∀ x ∈ ys, x.2.1 ≤ len) ∧ 0 < ys.length ∧ Src bs vb p w' ∧ w.grownBy w' (some p) := by
  obtain ⟨n, rfl⟩ := Int.eq_ofNat_of_zero_le (show 0 ≤ k by omega)
  exact (drawMarksL bs vb p n len w hS (by omega) hl).mono fun e w' ⟨v, ys, h1, h2, h3, h4, h5, h6⟩ => ⟨v, ys, h1, h2, h3, h4, h5 (by omega), h6⟩

set_option maxHeartbeats 4000000 in
set_option maxRecDepth 100000 in
theorem smMarksL (qs : List Mk) (v u : Value) (B C : Nat) (w : World) (h1 : RdM B w v qs) (h2 : RdM C w u qs) (hB : B ≤ w.heap.size) (hC : C ≤ w.heap.size) (hn : qs.length ≤ 8192) :
    Calls Tryd.prog 28 #[v, u] w fun e w' => e = .returned (.bool true) ∧ Below w.heap.size w w' := by
  rcases h1 with ⟨a1, c1, rfl, rfl⟩ | ⟨b, o, cap, rfl, hp, hb, hc⟩
  · rcases h2 with ⟨a2, c2, rfl, _⟩ | ⟨_, _, _, _, hp, _⟩
    · go_enter Tryd.func28, Tryd.ntmps28
      go_wp2_with fail
      refine wp_loop_rounds 1 ?_
      rw [rounds_succ]
      go_wp2
      go_ret
      exact ⟨rfl, Below.refl _ _⟩
    · simp at hp
  · rcases h2 with ⟨_, _, _, h0⟩ | ⟨b', o', cap', rfl, hp', hb', hc'⟩
    · rw [h0] at hp; simp at hp
    · unfold maxLen at hp hp'
      have HC := hide hc
      have HC' := hide hc'
      have hNN : ((qs.length : Int) != (qs.length : Int)) = false := by simp
      clear hc hc'
      go_enter Tryd.func28, Tryd.ntmps28
      go_wp2_with fail
      go_loopw [5, 13] (fun s5 i wr => ∃ k : Nat, k ≤ qs.length ∧ i = .int .i64 k ∧ Below w.heap.size w wr) (fun _ i _ => qs.length - (intOf i).toNat)
      case atStart => exact ⟨0, Nat.zero_le _, rfl, Below.refl _ _⟩
      case round =>
        obtain ⟨k, hk, rfl, hbw⟩ := hrel
        have HBW := hide hbw
        have hsw := hbw.size
        by_cases hkl : k < qs.length
        · obtain ⟨q, hq⟩ : ∃ q, qs[k]? = some q := ⟨_, List.getElem?_eq_getElem hkl⟩
          obtain ⟨a0, a1, a2⟩ := HC.out k q hq
          obtain ⟨d0, d1, d2⟩ := HC'.out k q hq
          have hbl : b < w.heap.size := by omega
          have hbl' : b' < w.heap.size := by omega
          have e0 := (hbw.cell (p := ⟨b, o + k * 3, none⟩) hbl).trans a0
          have e1 := (hbw.cell (p := ⟨b, o + k * 3 + 1, none⟩) hbl).trans a1
          have e2 := (hbw.cell (p := ⟨b, o + k * 3 + 2, none⟩) hbl).trans a2
          have g0 := (hbw.cell (p := ⟨b', o' + k * 3, none⟩) hbl').trans d0
          have g1 := (hbw.cell (p := ⟨b', o' + k * 3 + 1, none⟩) hbl').trans d1
          have g2 := (hbw.cell (p := ⟨b', o' + k * 3 + 2, none⟩) hbl').trans d2
          have hlt' : (k : Int) < qs.length := by omega
          have hk0 : ¬ (k : Int) < 0 := by omega
          clear a0 a1 a2 d0 d1 d2 hq hbw
          go_upto_region 6 with fail
          go_cut [24] from 14 to 25 (fun s24 wc => s24 = .bool false ∧ Below wr.heap.size wr wc)
          case first =>
            go_region
            all_goals (go_wp2_with fail; go_meet; exact ⟨by simp, ⟨rfl, rfl, rfl, Nat.le_refl _, fun _ _ => rfl⟩⟩)
          case rest =>
            obtain ⟨rfl, hbc⟩ := hcut
            have HBC := hide (HBW.out.trans (hbc.mono hsw))
            clear hbc
            go_wp2
            go_roundw
            case rel => exact ⟨k + 1, by omega, by go_num, HBC.out⟩
            case measure => simp [intOf]; omega
        · obtain rfl : k = qs.length := by omega
          have hge : ¬ (qs.length : Int) < (qs.length : Int) := by omega
          clear hbw
          go_wp2
          go_ret
          exact ⟨rfl, HBW.out⟩
end Go.Proofs.YtdjdkgidihhkfabDoor
