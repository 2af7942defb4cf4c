import Derived.Test.YtdjdkgidihhkfabDoorMkSpI
import Derived.Test.YtdjdkgidihhkfabDoorMkPush
namespace Go.Proofs.YtdjdkgidihhkfabDoor
open Go Go.RowKit Go.Sort Go.BigFrame
set_option linter.unusedVariables false

theorem full_srt (off n : Int) (xs : List Mk) : full off n xs = true ↔ ∃ y ∈ srt (xs.map (mov (pushF off n))), 8192 < y.2.1 := by
  rw [full_iff]
  constructor
  · rintro ⟨x, hx, h⟩
    exact ⟨mov (pushF off n) x, (srt_perm _).symm.subset (List.mem_map_of_mem hx), h⟩
  · rintro ⟨y, hy, h⟩
    obtain ⟨x, hx, rfl⟩ := List.mem_map.1 ((srt_perm _).subset hy)
    exact ⟨x, hx, h⟩

set_option maxHeartbeats 2000000 in
set_option maxRecDepth 100000 in
theorem specIns (B : Nat) (xs : List Mk) (v : Value) (off n : Int) (w : World) (h : OwM w B v xs) (hn : xs.length ≤ 1048576) :
    Calls Tryd.prog 10 #[v, .int .i64 off, .int .i64 n] w fun e w' => ∃ v', e = .returned (.tuple #[v', .int .i64 (insAns xs off n).2]) ∧ OwM w' w.heap.size v' (insAns xs off n).1 ∧ Below w.heap.size w w' := by
  have HVL := hide (validL _ xs v _ h.rd (Nat.le_refl _) hn)
  have HO := hide h
  have hfs := full_srt off n xs
  obtain ⟨ao, cap, rfl⟩ := h.val
  unfold insAns
  by_cases hv : Vd xs
  · rw [if_neg (by simpa using hv)]
    have HV := hide hv
    by_cases hb : decide (0 ≤ off ∧ off ≤ 8192) = true ∧ decide (0 ≤ n ∧ n ≤ 8192) = true
    · rw [if_pos hb]
      have ho : 0 ≤ off ∧ off ≤ 8192 := by simpa using hb.1
      have hnn : 0 ≤ n ∧ n ≤ 8192 := by simpa using hb.2
      have l1 : ¬ off < 0 := by omega
      have l2 : ¬ 8192 < off := by omega
      have l3 : ¬ n < 0 := by omega
      have l4 : ¬ 8192 < n := by omega
      have HIN := hide (fun W h => l5InsertL B xs (.slice ao xs.length cap) off n W h (by have := hv.1; omega) (fun x hx => by have := (hv.2.1 x hx).2; simpa [inO] using this) hnn)
      have hyl : (srt (xs.map (mov (pushF off n)))).length ≤ 128 := by rw [srt_length, List.length_map]; exact hv.1
      generalize hR : (if full off n xs = true then (([] : List Mk), (10 : Int)) else (srt (xs.map (mov (pushF off n))), 0)) = rr
      have HR := hide hR
      generalize srt (xs.map (mov (pushF off n))) = ys at *
      have HFS := hide hfs
      clear hb hv h hR hfs
      go_enter Tryd.func10, Tryd.ntmps10
      go_wp2_with fail
      refine HVL.out.mono ?_
      rintro e w1 ⟨hor, hb1⟩
      rcases hor with ⟨_, rfl⟩ | ⟨hno, _⟩
      · have B1 := hide hb1
        have O1 := hide (HO.out.below hb1 (Nat.le_refl _))
        have s1 := hb1.size
        clear hb1
        go_wp2_with fail
        refine (HIN.out _ O1.out).mono ?_
        rintro e w2 ⟨v2, rfl, ho2, hb2⟩
        have B2 := hide (B1.out.trans (hb2.mono s1))
        have s2 := hb2.size
        have O2 := hide ho2
        clear hb2
        rcases ho2.shape with ⟨rfl, rfl⟩ | ⟨g, cp, rfl, hcp, hcm, hbg, hgl⟩
        · have hf : ¬ full off n xs = true := by rw [HFS.out]; simp
          have HF := hide hf
          clear ho2 hf
          go_wp2_with fail
          refine wp_loop_rounds 1 ?_
          rw [rounds_succ]
          go_wp2
          go_ret2
          refine ⟨.slice none 0 0, ?_, ?_, B2.out⟩
          · rw [← HR.out, if_neg HF.out]; rfl
          · rw [← HR.out, if_neg HF.out]; exact World.ownsRow_nil _ _ _ _
        · have HAT := hide (fun (i : Nat) (y : Mk) (hy : ys[i]? = some y) => OwM.at O2.out hy)
          generalize hN : ys.length = ny at *
          have HNN := hide hN
          unfold maxLen at hcm
          clear ho2 hN
          go_wp2_with fail
          go_loopw [34] (fun i wr => ∃ k : Nat, k ≤ ny ∧ i = .int .i64 k ∧ Below w2.heap.size w2 wr ∧ ∀ i y, i < k → ys[i]? = some y → y.2.1 ≤ 8192) (fun i _ => ny - (intOf i).toNat)
          case atStart => exact ⟨0, Nat.zero_le _, rfl, Below.refl _ _, fun i y hi => by omega⟩
          case round =>
            obtain ⟨k, hk, rfl, hbw, hno⟩ := hrel
            have HBW := hide hbw
            have HNO := hide hno
            have hsw := hbw.size
            by_cases hlt : k < ny
            · obtain ⟨x, hx⟩ : ∃ x, ys[k]? = some x := ⟨ys[k]'(by rw [HNN.out]; exact hlt), by simp⟩
              obtain ⟨a0, a1, a2⟩ := HAT.out k x hx
              have e0 := (hbw.cell (p := ⟨g, k * 3, none⟩) hgl).trans a0
              have e1 := (hbw.cell (p := ⟨g, k * 3 + 1, none⟩) hgl).trans a1
              have e2 := (hbw.cell (p := ⟨g, k * 3 + 2, none⟩) hgl).trans a2
              have hlt' : (k : Int) < ny := by omega
              have hbr : g < wr.heap.size := by omega
              have BA := hide (HBW.out.trans (((Below.refl wr.heap.size wr).alloc (Nat.le_refl _) (.cells #[.int .i64 x.1, .int .i64 x.2.1, .int .i64 x.2.2] 41)).mono hsw))
              have HX := hide hx
              clear a0 a1 a2 hx hbw hno
              by_cases hf : 8192 < x.2.1
              · have HF := hide (HFS.out.2 ⟨x, List.mem_of_getElem? HX.out, hf⟩)
                go_wp2
                go_ret2
                refine ⟨.slice none 0 0, ?_, ?_, B2.out.trans (BA.out.mono (by omega))⟩
                · rw [← HR.out, if_pos HF.out]; rfl
                · rw [← HR.out, if_pos HF.out]; exact World.ownsRow_nil _ _ _ _
              · have HF := hide (show x.2.1 ≤ 8192 by omega)
                go_wp2
                go_roundw
                case rel =>
                  refine ⟨k + 1, by omega, by go_num, BA.out, fun i y hi hy => ?_⟩
                  by_cases e : i = k
                  · subst e
                    obtain rfl : y = x := by rw [HX.out] at hy; exact (Option.some.inj hy).symm
                    exact HF.out
                  · exact HNO.out i y (by omega) hy
                case measure => simp [intOf]; omega
            · obtain rfl : k = ny := by omega
              have hge : ¬ (k : Int) < (k : Int) := by omega
              have hf : ¬ full off n xs = true := by
                rw [HFS.out]
                rintro ⟨y, hy, hq⟩
                obtain ⟨j, hj, rfl⟩ := List.getElem_of_mem hy
                have h9 := HNO.out j ys[j] (by rw [← HNN.out]; exact hj) (by simp)
                omega
              have HF := hide hf
              have O3 := hide (O2.out.below HBW.out (Nat.le_refl _) |>.base (base' := w.heap.size) s1)
              clear hbw hno hf
              go_wp2
              go_ret2
              refine ⟨.slice (some ⟨g, 0, none⟩) k cp, ?_, ?_, B2.out.trans (HBW.out.mono (by omega))⟩
              · rw [← HR.out, if_neg HF.out]; rfl
              · rw [← HR.out, if_neg HF.out]; exact O3.out
      · exact absurd HV.out hno
    · rw [if_neg hb]
      have HBD := hide (show ¬ ((0 ≤ off ∧ off ≤ 8192) ∧ (0 ≤ n ∧ n ≤ 8192)) from fun q => hb ⟨by simpa using q.1, by simpa using q.2⟩)
      clear hb hv h hfs
      generalize xs.length = nn at *
      by_cases p1 : off < 0
      · go_enter Tryd.func10, Tryd.ntmps10
        go_wp2_with fail
        refine HVL.out.mono ?_
        rintro e w1 ⟨hor, hb1⟩
        rcases hor with ⟨_, rfl⟩ | ⟨hno, _⟩
        · have B1 := hide hb1
          clear hb1
          go_wp2
          go_ret2
          exact ⟨_, rfl, World.ownsRow_nil _ _ _ _, B1.out⟩
        · exact absurd HV.out hno
      by_cases p2 : 8192 < off
      · go_enter Tryd.func10, Tryd.ntmps10
        go_wp2_with fail
        refine HVL.out.mono ?_
        rintro e w1 ⟨hor, hb1⟩
        rcases hor with ⟨_, rfl⟩ | ⟨hno, _⟩
        · have B1 := hide hb1
          clear hb1
          go_wp2
          go_ret2
          exact ⟨_, rfl, World.ownsRow_nil _ _ _ _, B1.out⟩
        · exact absurd HV.out hno
      by_cases p3 : n < 0
      · go_enter Tryd.func10, Tryd.ntmps10
        go_wp2_with fail
        refine HVL.out.mono ?_
        rintro e w1 ⟨hor, hb1⟩
        rcases hor with ⟨_, rfl⟩ | ⟨hno, _⟩
        · have B1 := hide hb1
          clear hb1
          go_wp2
          go_ret2
          exact ⟨_, rfl, World.ownsRow_nil _ _ _ _, B1.out⟩
        · exact absurd HV.out hno
      have p4 : 8192 < n := by have := HBD.out; omega
      go_enter Tryd.func10, Tryd.ntmps10
      go_wp2_with fail
      refine HVL.out.mono ?_
      rintro e w1 ⟨hor, hb1⟩
      rcases hor with ⟨_, rfl⟩ | ⟨hno, _⟩
      · have B1 := hide hb1
        clear hb1
        go_wp2
        go_ret2
        exact ⟨_, rfl, World.ownsRow_nil _ _ _ _, B1.out⟩
      · exact absurd HV.out hno
  · rw [if_pos hv]
    have HV := hide hv
    clear hv h hfs
    generalize xs.length = nn at *
    go_enter Tryd.func10, Tryd.ntmps10
    go_wp2_with fail
    refine HVL.out.mono ?_
    rintro e w1 ⟨hor, hb1⟩
    rcases hor with ⟨hgo, _⟩ | ⟨_, rfl⟩
    · exact absurd hgo HV.out
    · have B1 := hide hb1
      clear hb1
      go_wp2
      go_ret2
      exact ⟨_, rfl, World.ownsRow_nil _ _ _ _, B1.out⟩

end Go.Proofs.YtdjdkgidihhkfabDoor
