import Derived.Test.YtdjdkgidihhkfabDoorMkSpS
import Derived.Test.YtdjdkgidihhkfabDoorMkMov
namespace Go.Proofs.YtdjdkgidihhkfabDoor
open Go Go.RowKit Go.Sort Go.BigFrame
set_option linter.unusedVariables false

theorem movs_same (f : Mk → Int) (xs : List Mk) (k : Nat) (x : Mk) (h : xs[k]? = some x) (hf : f x = x.2.1) : (xs.take k).map (mov f) ++ xs.drop k = (xs.take (k + 1)).map (mov f) ++ xs.drop (k + 1) := by
  have hk : k < xs.length := (List.getElem?_eq_some_iff.1 h).1
  have e : xs.drop k = x :: xs.drop (k + 1) := by
    rw [List.drop_eq_getElem_cons hk]
    have := List.getElem?_eq_some_iff.1 h
    rw [this.2]
  have hm : mov f x = x := by unfold mov; rw [hf]
  rw [e, List.take_add_one, h]
  simp [hm]

set_option maxHeartbeats 2000000 in
set_option maxRecDepth 100000 in
theorem l5InsertL (B : Nat) (xs : List Mk) (v : Value) (off n : Int) (w : World) (h : OwM w B v xs) (hn : xs.length ≤ 4096) (hx0 : ∀ x ∈ xs, 0 ≤ x.2.1 ∧ x.2.1 ≤ 8192) (hnn : 0 ≤ n ∧ n ≤ 8192) :
    Calls Tryd.prog 43 #[v, .int .i64 off, .int .i64 n] w fun e w' => ∃ v', e = .returned v' ∧ OwM w' w.heap.size v' (srt (xs.map (mov (pushF off n)))) ∧ Below w.heap.size w w' := by
  obtain ⟨i0, hi, hz0, hz1, hz2⟩ := info_parts Tryd.infoMK
  have HOv := hide h
  have hk0 : (w.alloc (.cells #[] 41)).heap[w.heap.size]? = some (.cells #[] 41 (0, 0)) := heap_alloc_new _ _
  have hs0 : (w.alloc (.cells #[] 41)).heap.size = w.heap.size + 1 := by simp
  have B0 := hide ((Below.refl w.heap.size w).alloc (Nat.le_refl _) (.cells #[] 41))
  have O0 := hide (show (w.alloc (.cells #[] 41)).ownsRow w.heap.size 41 3 (.slice (some ⟨w.heap.size, 0, none⟩) 0 0) 0 [] from ⟨rfl, .inr ⟨_, 0, #[], rfl, Nat.le_refl _, hk0, Nat.le_refl _, by unfold maxLen; omega, rfl, rfl⟩⟩)
  have HSO := hide (fun B v w h => sortL B (xs.map (mov (pushF off n))) v w h (by simpa using hn))
  rcases h.shape with ⟨rfl, rfl⟩ | ⟨g, cap, rfl, hcap, hcm, hbg, hgl⟩
  · clear h hk0
    go_enter Tryd.func43, Tryd.ntmps43
    go_wp2_with (at_builtin; refine wpList_append_own_none rfl _ _ 24 rfl w.heap.size 41 i0 3 Tryd.underlying24 hi _ _ _ rfl (by exact O0.out) rfl ?_)
    refine wp_loop_rounds 1 ?_
    rw [rounds_succ]
    go_wp2_with fail
    refine (HSO.out _ _ _ (show OwM (w.alloc (.cells #[] 41)) w.heap.size _ (List.map (mov (pushF off n)) []) from O0.out)).mono ?_
    rintro e w1 ⟨v1, rfl, ho1, hb1⟩
    have B1 := hide (B0.out.trans (hb1.mono (by simp)))
    have O1 := hide (ho1.base (base' := w.heap.size) (by simp))
    clear ho1 hb1
    go_wp2
    go_ret
    exact ⟨_, rfl, O1.out, B1.out⟩
  · have RC := hide (OwM.cells (show OwM (w.alloc (.cells #[] 41)) B (.slice (some ⟨g, 0, none⟩) xs.length cap) xs from (World.ownsRow.alloc HOv.out _)))
    unfold maxLen at hcm
    have HX0 := hide hx0
    clear h hk0 hx0
    go_enter Tryd.func43, Tryd.ntmps43
    go_upto_region 2 with (at_builtin; refine wpList_append_own _ rfl _ _ 24 rfl w.heap.size 41 i0 (.agg #[.int .i64 0, .int .i64 0, .int .i64 0]) 3 24 Tryd.underlying24 hi hz0 hz1 hz2 rfl (by decide) (.slice (some ⟨w.heap.size, 0, none⟩) 0 0) 0 [] rfl (by exact O0.out) ⟨g, 0, none⟩ xs.length cap (mkVs xs) rfl (mkVs_length xs) (by exact RC.out) (mkVs_one xs) (by unfold maxLen; omega) (by omega) (by simp) ?_; intro v4 w4 ho4 hg4 hnil4; have O4 := hide (show OwM w4 w.heap.size v4 xs from (by have h9 := ho4; rw [Nat.zero_add, List.nil_append] at h9; exact h9)); have B4 := hide (B0.out.trans ((Below.refl w.heap.size _).grown hg4 (by omega) (own_rowM O0.out))); have N4 := hide hnil4; clear ho4 hg4 hnil4)
    rcases O4.out.shape with ⟨hbad, _⟩ | ⟨gv, cv, rfl, hcv, hcm2, hbg2, hgl2⟩
    · exact absurd (N4.out.1 hbad).1 (by simp)
    have HOW0 := hide O4.out
    clear N4 O4 RC O0
    generalize hN : xs.length = nn at *
    have HNN := hide hN
    clear hN
    unfold maxLen at hcm2
    go_wp2_with fail
    go_loopw [14] (fun i wr => ∃ k : Nat, k ≤ nn ∧ i = .int .i64 k ∧ wr.ownsRow w.heap.size 41 3 (.slice (some ⟨gv, 0, none⟩) nn cv) nn (mkVs ((xs.take k).map (mov (pushF off n)) ++ xs.drop k)) ∧ Below w.heap.size w wr) (fun i _ => nn - (intOf i).toNat)
    case atStart => exact ⟨0, Nat.zero_le _, rfl, by have h9 := HOW0.out; unfold OwM at h9; rw [HNN.out] at h9; simpa using h9, B4.out⟩
    case round =>
      obtain ⟨k, hk, rfl, hown, hb⟩ := hrel
      have HB := hide hb
      have HOW := hide hown
      have hsz := hb.size
      have hgr : gv < wr.heap.size := (hown.lt gv rfl).2
      by_cases hlt2 : k < nn
      · obtain ⟨x, hx⟩ : ∃ x, xs[k]? = some x := ⟨xs[k]'(by rw [HNN.out]; exact hlt2), by simp⟩
        have hgx : ((xs.take k).map (mov (pushF off n)) ++ xs.drop k)[k]? = some x := by
          rw [List.getElem?_append_right (by rw [List.length_map, List.length_take]; omega), List.length_map, List.length_take, HNN.out, Nat.min_eq_left hk, Nat.sub_self, List.getElem?_drop, Nat.add_zero, hx]
        have e1 : wr.cell? ⟨gv, k * 3 + 1, none⟩ = some (.int .i64 x.2.1) := by rw [hown.cellAt (k * 3 + 1) (by omega), mkVs_get _ k 1 x hgx (by omega)]; rfl
        have e2 : wr.cell? ⟨gv, k * 3 + 2, none⟩ = some (.int .i64 x.2.2) := by rw [hown.cellAt (k * 3 + 2) (by omega), mkVs_get _ k 2 x hgx (by omega)]; rfl
        have hlt3 : (k : Int) < nn := by omega
        have f1 : wr.frozen? ⟨gv, k * 3 + 1, none⟩ = false := hown.frozenAt _
        have st := (hown.stored (k * 3 + 1) (.int .i64 (pushF off n x))).1
        rw [movs_set (pushF off n) xs k x hx] at st
        have HS := hide st
        have HSM := hide (movs_same (pushF off n) xs k x hx)
        have hxb := HX0.out x (List.mem_of_getElem? hx)
        clear hb hown hgx hx st
        by_cases a : x.2.1 > off
        · have a' : off < x.2.1 := a
          rw [show pushF off n x = x.2.1 + n by unfold pushF; rw [if_pos (.inl a)]] at HS
          go_wp2
          go_roundw
          case rel => exact ⟨k + 1, by omega, by go_num, HS.out, HB.out.setCell (by show w.heap.size ≤ gv; omega) _⟩
          case measure => simp [intOf]; omega
        · have a' : ¬ off < x.2.1 := a
          by_cases b : x.2.1 = off
          · have b' : (x.2.1 == off) = true := by simpa using b
            by_cases cc : x.2.2 = 1
            · have c' : (x.2.2 == 1) = true := by simpa using cc
              rw [show pushF off n x = x.2.1 + n by unfold pushF; rw [if_pos (.inr ⟨b, cc⟩)]] at HS
              clear b cc
              go_wp2
              go_roundw
              case rel => exact ⟨k + 1, by omega, by go_num, HS.out, HB.out.setCell (by show w.heap.size ≤ gv; omega) _⟩
              case measure => simp [intOf]; omega
            · have c' : (x.2.2 == 1) = false := by simpa using cc
              have e9 : pushF off n x = x.2.1 := by unfold pushF; rw [if_neg (fun q => by rcases q with q | q; exact a q; exact cc q.2)]
              have HSN := hide (HSM.out e9)
              clear b cc e9
              go_wp2
              go_roundw
              case rel => exact ⟨k + 1, by omega, by go_num, by rw [← HSN.out]; exact HOW.out, HB.out⟩
              case measure => simp [intOf]; omega
          · have b' : (x.2.1 == off) = false := by simpa using b
            have e9 : pushF off n x = x.2.1 := by unfold pushF; rw [if_neg (fun q => by rcases q with q | q; exact a q; exact b q.1)]
            have HSN := hide (HSM.out e9)
            clear b e9
            go_wp2
            go_roundw
            case rel => exact ⟨k + 1, by omega, by go_num, by rw [← HSN.out]; exact HOW.out, HB.out⟩
            case measure => simp [intOf]; omega
      · obtain rfl : k = nn := by omega
        have hge : ¬ (k : Int) < (k : Int) := by omega
        have O3 := hide (show OwM wr w.heap.size (.slice (some ⟨gv, 0, none⟩) k cv) (xs.map (mov (pushF off n))) from (by
          have h9 := HOW.out
          rw [show xs.take k = xs by rw [← HNN.out]; exact List.take_length, List.drop_of_length_le (by rw [HNN.out]; omega), List.append_nil] at h9
          unfold OwM
          rw [List.length_map, HNN.out]
          exact h9))
        have HS := hide (HSO.out _ _ _ O3.out)
        clear hb hown
        go_wp2_with fail
        refine HS.out.mono ?_
        rintro e w5 ⟨v5, rfl, ho5, hb5⟩
        have B5 := hide (HB.out.trans (hb5.mono hsz))
        have O5 := hide (ho5.base (base' := w.heap.size) hsz)
        clear ho5 hb5
        go_wp2
        go_ret
        exact ⟨_, rfl, O5.out, B5.out⟩

end Go.Proofs.YtdjdkgidihhkfabDoor
