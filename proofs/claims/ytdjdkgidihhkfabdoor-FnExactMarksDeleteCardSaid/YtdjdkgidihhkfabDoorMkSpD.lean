import Derived.Test.YtdjdkgidihhkfabDoorMkSpI
import Derived.Test.YtdjdkgidihhkfabDoorMkDel
namespace Go.Proofs.YtdjdkgidihhkfabDoor
open Go Go.RowKit Go.Sort Go.BigFrame
set_option linter.unusedVariables false

/-- How many of the first j runes stay. -/
def stay (lo hi : Int) (j : Nat) : Int := if (j : Int) ≤ lo then j else if (j : Int) ≤ hi then lo else j - (hi - lo)
theorem stay_zero (lo hi : Int) (hr : (0 ≤ hi ∧ hi ≤ 8192) ∧ (0 ≤ lo ∧ lo ≤ hi)) : stay lo hi 0 = 0 := by unfold stay; rw [if_pos (by simp; omega)]; rfl
theorem stay_bound (lo hi : Int) (j : Nat) (hr : (0 ≤ hi ∧ hi ≤ 8192) ∧ (0 ≤ lo ∧ lo ≤ hi)) : 0 ≤ stay lo hi j ∧ stay lo hi j ≤ j := by
  unfold stay
  repeat' split
  all_goals omega
theorem stay_succ (lo hi : Int) (j : Nat) (hr : (0 ≤ hi ∧ hi ≤ 8192) ∧ (0 ≤ lo ∧ lo ≤ hi)) : stay lo hi (j + 1) = if (j : Int) < lo ∨ hi ≤ (j : Int) then stay lo hi j + 1 else stay lo hi j := by
  unfold stay
  repeat' split
  all_goals omega
theorem stay_pull (lo hi : Int) (x : Mk) (hr : (0 ≤ hi ∧ hi ≤ 8192) ∧ (0 ≤ lo ∧ lo ≤ hi)) (hx : 0 ≤ x.2.1 ∧ x.2.1 ≤ 8192) : stay lo hi x.2.1.toNat = pullF lo (hi - lo) x := by
  have e : ((x.2.1.toNat : Nat) : Int) = x.2.1 := by omega
  unfold stay pullF
  rw [e]
  repeat' split
  all_goals omega

set_option maxHeartbeats 2000000 in
set_option maxRecDepth 100000 in
theorem l5DeleteL (B : Nat) (xs : List Mk) (v : Value) (lo hi : Int) (w : World) (h : OwM w B v xs) (hn : xs.length ≤ 4096) (hx0 : ∀ x ∈ xs, 0 ≤ x.2.1 ∧ x.2.1 ≤ 8192) (hr : (0 ≤ hi ∧ hi ≤ 8192) ∧ (0 ≤ lo ∧ lo ≤ hi)) :
    Calls Tryd.prog 50 #[v, .int .i64 lo, .int .i64 hi] w fun e w' => ∃ v', e = .returned v' ∧ OwM w' w.heap.size v' (srt (xs.map (mov (pullF lo (hi - lo))))) ∧ Below w.heap.size w w' := by
  obtain ⟨i0, hif, hz0, hz1, hz2⟩ := info_parts Tryd.infoMK
  have HOv := hide h
  have hk0 : (w.alloc (.cells #[] 41)).heap[w.heap.size]? = some (.cells #[] 41 (0, 0)) := heap_alloc_new _ _
  have hs0 : (w.alloc (.cells #[] 41)).heap.size = w.heap.size + 1 := by simp
  have B0 := hide ((Below.refl w.heap.size w).alloc (Nat.le_refl _) (.cells #[] 41))
  have O0 := hide (show (w.alloc (.cells #[] 41)).ownsRow w.heap.size 41 3 (.slice (some ⟨w.heap.size, 0, none⟩) 0 0) 0 [] from ⟨rfl, .inr ⟨_, 0, #[], rfl, Nat.le_refl _, hk0, Nat.le_refl _, by unfold maxLen; omega, rfl, rfl⟩⟩)
  have HSO := hide (fun B v w h => sortL B (xs.map (mov (pullF lo (hi - lo)))) v w h (by simpa using hn))
  rcases h.shape with ⟨rfl, rfl⟩ | ⟨g, cap, rfl, hcap, hcm, hbg, hgl⟩
  · clear h hk0
    go_enter Tryd.func50, Tryd.ntmps50
    go_wp2_with (at_builtin; refine wpList_append_own_none rfl _ _ 24 rfl w.heap.size 41 i0 3 Tryd.underlying24 hif _ _ _ rfl (by exact O0.out) rfl ?_)
    refine wp_loop_rounds 1 ?_
    rw [rounds_succ]
    go_wp2_with fail
    refine (HSO.out _ _ _ (show OwM (w.alloc (.cells #[] 41)) w.heap.size _ (List.map (mov (pullF lo (hi - lo))) []) from O0.out)).mono ?_
    rintro e w1 ⟨v1, rfl, ho1, hb1⟩
    have B1 := hide (B0.out.trans (hb1.mono (by simp)))
    have O1 := hide (ho1.base (base' := w.heap.size) (by simp))
    clear ho1 hb1
    go_wp2
    go_ret
    exact ⟨_, rfl, O1.out, B1.out⟩
  · have RC := hide (OwM.cells (show OwM (w.alloc (.cells #[] 41)) B (.slice (some ⟨g, 0, none⟩) xs.length cap) xs from (World.ownsRow.alloc HOv.out _)))
    unfold maxLen at hcm
    have HX0 := hide hx0
    clear h hk0 hx0
    go_enter Tryd.func50, Tryd.ntmps50
    go_upto_region 2 with (at_builtin; refine wpList_append_own _ rfl _ _ 24 rfl w.heap.size 41 i0 (.agg #[.int .i64 0, .int .i64 0, .int .i64 0]) 3 24 Tryd.underlying24 hif hz0 hz1 hz2 rfl (by decide) (.slice (some ⟨w.heap.size, 0, none⟩) 0 0) 0 [] rfl (by exact O0.out) ⟨g, 0, none⟩ xs.length cap (mkVs xs) rfl (mkVs_length xs) (by exact RC.out) (mkVs_one xs) (by unfold maxLen; omega) (by omega) (by simp) ?_; intro v4 w4 ho4 hg4 hnil4; have O4 := hide (show OwM w4 w.heap.size v4 xs from (by have h9 := ho4; rw [Nat.zero_add, List.nil_append] at h9; exact h9)); have B4 := hide (B0.out.trans ((Below.refl w.heap.size _).grown hg4 (by omega) (own_rowM O0.out))); have N4 := hide hnil4; clear ho4 hg4 hnil4)
    rcases O4.out.shape with ⟨hbad, _⟩ | ⟨gv, cv, rfl, hcv, hcm2, hbg2, hgl2⟩
    · exact absurd (N4.out.1 hbad).1 (by simp)
    have HOW0 := hide O4.out
    clear N4 O4 RC O0
    generalize hN : xs.length = nn at *
    have HNN := hide hN
    clear hN
    unfold maxLen at hcm2
    go_wp2_with fail
    go_loopw [16] (fun i wr => ∃ k : Nat, k ≤ nn ∧ i = .int .i64 k ∧ wr.ownsRow w.heap.size 41 3 (.slice (some ⟨gv, 0, none⟩) nn cv) nn (mkVs ((xs.take k).map (mov (pullF lo (hi - lo))) ++ xs.drop k)) ∧ Below w.heap.size w wr) (fun i _ => nn - (intOf i).toNat)
    case atStart => exact ⟨0, Nat.zero_le _, rfl, by have h9 := HOW0.out; unfold OwM at h9; rw [HNN.out] at h9; simpa using h9, B4.out⟩
    case round =>
      obtain ⟨k, hk, rfl, hown, hb⟩ := hrel
      have HB := hide hb
      have HOW := hide hown
      have hsz := hb.size
      have hgr : gv < wr.heap.size := (hown.lt gv rfl).2
      by_cases hlt2 : k < nn
      · obtain ⟨x, hx⟩ : ∃ x, xs[k]? = some x := ⟨xs[k]'(by rw [HNN.out]; exact hlt2), by simp⟩
        have hgx : ((xs.take k).map (mov (pullF lo (hi - lo))) ++ xs.drop k)[k]? = some x := by
          rw [List.getElem?_append_right (by rw [List.length_map, List.length_take]; omega), List.length_map, List.length_take, HNN.out, Nat.min_eq_left hk, Nat.sub_self, List.getElem?_drop, Nat.add_zero, hx]
        have e1 : wr.cell? ⟨gv, k * 3 + 1, none⟩ = some (.int .i64 x.2.1) := by rw [hown.cellAt (k * 3 + 1) (by omega), mkVs_get _ k 1 x hgx (by omega)]; rfl
        have e2 : wr.cell? ⟨gv, k * 3 + 2, none⟩ = some (.int .i64 x.2.2) := by rw [hown.cellAt (k * 3 + 2) (by omega), mkVs_get _ k 2 x hgx (by omega)]; rfl
        have hlt3 : (k : Int) < nn := by omega
        have f1 : wr.frozen? ⟨gv, k * 3 + 1, none⟩ = false := hown.frozenAt _
        have st := (hown.stored (k * 3 + 1) (.int .i64 (pullF lo (hi - lo) x))).1
        rw [movs_set (pullF lo (hi - lo)) xs k x hx] at st
        have HS := hide st
        have hxb := HX0.out x (List.mem_of_getElem? hx)
        have EP := hide (stay_pull lo hi x hr hxb)
        obtain ⟨wx, rfl⟩ : ∃ wx, wx = wr := ⟨wr, rfl⟩
        clear hb hown hgx hx st
        obtain ⟨xo, hxo⟩ : ∃ xo : Nat, x.2.1 = (xo : Int) := ⟨x.2.1.toNat, by omega⟩
        have HXO := hide hxo
        rw [hxo] at e1
        have hxb' : xo ≤ 8192 := by omega
        clear hxo
        go_wp2_with fail
        go_loopw [9, 10] (fun s kk wr => ∃ j : Nat, j ≤ xo ∧ kk = .int .i64 j ∧ s = .int .i64 (stay lo hi j) ∧ wr = wx) (fun _ kk _ => xo - (intOf kk).toNat)
        case atStart => exact ⟨0, Nat.zero_le _, rfl, by rw [stay_zero lo hi hr], rfl⟩
        case round =>
          obtain ⟨j, hj, rfl, rfl, rfl⟩ := hrel
          have hsb := stay_bound lo hi j hr
          have hss := stay_succ lo hi j hr
          by_cases hjo : j < xo
          · have hjo' : (j : Int) < (xo : Int) := by omega
            by_cases p1 : (j : Int) < lo
            · rw [if_pos (.inl p1)] at hss
              generalize stay lo hi j = sj at *
              have HSS := hide hss
              clear hss
              go_wp2
              go_roundw
              case rel => exact ⟨j + 1, by omega, by go_num, by rw [HSS.out], by first | rfl | trivial⟩
              case measure => simp [intOf]; omega
            · by_cases p2 : hi ≤ (j : Int)
              · rw [if_pos (.inr p2)] at hss
                generalize stay lo hi j = sj at *
                have HSS := hide hss
                clear hss
                go_wp2
                go_roundw
                case rel => exact ⟨j + 1, by omega, by go_num, by rw [HSS.out], by first | rfl | trivial⟩
                case measure => simp [intOf]; omega
              · rw [if_neg (fun q => by rcases q with q | q; exact p1 q; exact p2 q)] at hss
                generalize stay lo hi j = sj at *
                have HSS := hide hss
                clear hss
                go_wp2
                go_roundw
                case rel => exact ⟨j + 1, by omega, by go_num, by rw [HSS.out], by first | rfl | trivial⟩
                case measure => simp [intOf]; omega
          · obtain rfl : j = xo := by omega
            have hge : ¬ (j : Int) < (j : Int) := by omega
            have e9 : stay lo hi j = pullF lo (hi - lo) x := by
              have h9 := EP.out
              rw [HXO.out] at h9
              simpa using h9
            rw [e9]
            clear hss hsb e9
            generalize pullF lo (hi - lo) x = pf at *
            go_wp2
            go_roundw
            case rel => exact ⟨k + 1, by omega, by go_num, HS.out, HB.out.setCell (by show w.heap.size ≤ gv; omega) _⟩
            case measure => simp [intOf]; omega
      · obtain rfl : k = nn := by omega
        have hge : ¬ (k : Int) < (k : Int) := by omega
        have O3 := hide (show OwM wr w.heap.size (.slice (some ⟨gv, 0, none⟩) k cv) (xs.map (mov (pullF lo (hi - lo)))) from (by
          have h9 := HOW.out
          rw [show xs.take k = xs by rw [← HNN.out]; exact List.take_length, List.drop_of_length_le (by rw [HNN.out]; omega), List.append_nil] at h9
          unfold OwM
          rw [List.length_map, HNN.out]
          exact h9))
        have HS := hide (HSO.out _ _ _ O3.out)
        clear hb hown
        go_wp2_with fail
        refine HS.out.mono ?_
        rintro e w5 ⟨v5, rfl, ho5, hb5⟩
        have B5 := hide (HB.out.trans (hb5.mono hsz))
        have O5 := hide (ho5.base (base' := w.heap.size) hsz)
        clear ho5 hb5
        go_wp2
        go_ret
        exact ⟨_, rfl, O5.out, B5.out⟩


set_option maxHeartbeats 2000000 in
set_option maxRecDepth 100000 in
theorem specDel (B : Nat) (xs : List Mk) (v : Value) (lo hi : Int) (w : World) (h : OwM w B v xs) (hn : xs.length ≤ 1048576) :
    Calls Tryd.prog 16 #[v, .int .i64 lo, .int .i64 hi] w fun e w' => ∃ v', e = .returned (.tuple #[v', .int .i64 (delAns xs lo hi).2]) ∧ OwM w' w.heap.size v' (delAns xs lo hi).1 ∧ Below w.heap.size w w' := by
  have HVL := hide (validL _ xs v _ h.rd (Nat.le_refl _) hn)
  have HO := hide h
  obtain ⟨ao, cap, rfl⟩ := h.val
  unfold delAns
  by_cases hv : Vd xs
  · rw [if_neg (by simpa using hv)]
    have HV := hide hv
    by_cases hr : (0 ≤ hi ∧ hi ≤ 8192) ∧ (0 ≤ lo ∧ lo ≤ hi)
    · rw [show decide ((0 ≤ hi ∧ hi ≤ 8192) ∧ (0 ≤ lo ∧ lo ≤ hi)) = true by simpa using hr, if_pos rfl]
      have l1 : ¬ lo < 0 := by omega
      have l2 : ¬ hi < lo := by omega
      have l3 : ¬ 8192 < hi := by omega
      have HIN := hide (fun W h => l5DeleteL B xs (.slice ao xs.length cap) lo hi W h (by have := hv.1; omega) (fun x hx => by have := (hv.2.1 x hx).2; simpa [inO] using this) hr)
      clear hv h
      generalize srt (xs.map (mov (pullF lo (hi - lo)))) = ys at *
      generalize xs.length = nn at *
      go_enter Tryd.func16, Tryd.ntmps16
      go_wp2_with fail
      refine HVL.out.mono ?_
      rintro e w1 ⟨hor, hb1⟩
      rcases hor with ⟨_, rfl⟩ | ⟨hno, _⟩
      · have B1 := hide hb1
        have O1 := hide (HO.out.below hb1 (Nat.le_refl _))
        have s1 := hb1.size
        clear hb1
        go_wp2_with fail
        refine (HIN.out _ O1.out).mono ?_
        rintro e w2 ⟨v2, rfl, ho2, hb2⟩
        have B2 := hide (B1.out.trans (hb2.mono s1))
        have O2 := hide (ho2.base (base' := w.heap.size) s1)
        clear hb2 ho2
        go_wp2
        go_ret2
        exact ⟨_, rfl, O2.out, B2.out⟩
      · exact absurd HV.out hno
    · rw [show decide ((0 ≤ hi ∧ hi ≤ 8192) ∧ (0 ≤ lo ∧ lo ≤ hi)) = false by rw [decide_eq_false_iff_not]; exact hr, if_neg (by simp)]
      have HBD := hide hr
      clear hr hv h
      generalize xs.length = nn at *
      by_cases p1 : lo < 0
      · skip
        go_enter Tryd.func16, Tryd.ntmps16
        go_wp2_with fail
        refine HVL.out.mono ?_
        rintro e w1 ⟨hor, hb1⟩
        rcases hor with ⟨_, rfl⟩ | ⟨hno, _⟩
        · have B1 := hide hb1
          clear hb1
          go_wp2
          go_ret2
          exact ⟨_, rfl, World.ownsRow_nil _ _ _ _, B1.out⟩
        · exact absurd HV.out hno
      by_cases p2 : hi < lo
      · skip
        go_enter Tryd.func16, Tryd.ntmps16
        go_wp2_with fail
        refine HVL.out.mono ?_
        rintro e w1 ⟨hor, hb1⟩
        rcases hor with ⟨_, rfl⟩ | ⟨hno, _⟩
        · have B1 := hide hb1
          clear hb1
          go_wp2
          go_ret2
          exact ⟨_, rfl, World.ownsRow_nil _ _ _ _, B1.out⟩
        · exact absurd HV.out hno
      have p3 : 8192 < hi := by have := HBD.out; omega
      go_enter Tryd.func16, Tryd.ntmps16
      go_wp2_with fail
      refine HVL.out.mono ?_
      rintro e w1 ⟨hor, hb1⟩
      rcases hor with ⟨_, rfl⟩ | ⟨hno, _⟩
      · have B1 := hide hb1
        clear hb1
        go_wp2
        go_ret2
        exact ⟨_, rfl, World.ownsRow_nil _ _ _ _, B1.out⟩
      · exact absurd HV.out hno
  · rw [if_pos hv]
    have HV := hide hv
    clear hv h
    generalize xs.length = nn at *
    go_enter Tryd.func16, Tryd.ntmps16
    go_wp2_with fail
    refine HVL.out.mono ?_
    rintro e w1 ⟨hor, hb1⟩
    rcases hor with ⟨hgo, _⟩ | ⟨_, rfl⟩
    · exact absurd hgo HV.out
    · have B1 := hide hb1
      clear hb1
      go_wp2
      go_ret2
      exact ⟨_, rfl, World.ownsRow_nil _ _ _ _, B1.out⟩

end Go.Proofs.YtdjdkgidihhkfabDoor
