import Derived.Test.YtbgngikejgihgafDoorTSpI
import Derived.Test.YtbgngikejgihgafDoorLSp
import Derived.Test.YtbgngikejgihgafDoorTVal
namespace Go.Proofs.YtbgngikejgihgafDoor
open Go Go.RowKit
set_option linter.unusedVariables false

set_option maxHeartbeats 4000000 in
set_option maxRecDepth 100000 in
theorem specSpl (base b cap : Nat) (xs : List It) (k : Int) (w : World) (ho : OwI w base (.slice (some ⟨b, 0, none⟩) xs.length cap) xs) (hn : xs.length ≤ 1048576) :
    Calls Tryd.prog 8 #[.agg #[.slice (some ⟨b, 0, none⟩) xs.length cap], .int .i64 k] w (SplPost w xs k) := by
  have A0 := hide ((((Below.refl w.heap.size w).alloc (Nat.le_refl _) (.cells #[.slice (some ⟨b, 0, none⟩) xs.length cap] 28)).alloc (by simp) (.cells #[.slice none 0 0] 28)).alloc (by simp; omega) (.cells #[.slice none 0 0] 28))
  have O0 := hide (show OwI _ base _ xs from owns_below ho A0.out (Nat.le_refl _))
  have HK0 := hide (show Boxed (((w.alloc (.cells #[.slice (some ⟨b, 0, none⟩) xs.length cap] 28)).alloc (.cells #[.slice none 0 0] 28)).alloc (.cells #[.slice none 0 0] 28)) w.heap.size 28 (.slice (some ⟨b, 0, none⟩) xs.length cap) from ((Boxed.new w 28 _).alloc _).alloc _)
  have k1 := (Boxed.new (w.alloc (.cells #[.slice (some ⟨b, 0, none⟩) xs.length cap] 28)) 28 (.slice none 0 0)).alloc (.cells #[.slice none 0 0] 28)
  have k2 := Boxed.new ((w.alloc (.cells #[.slice (some ⟨b, 0, none⟩) xs.length cap] 28)).alloc (.cells #[.slice none 0 0] 28)) 28 (.slice none 0 0)
  rw [World.size_alloc] at k1
  rw [World.size_alloc, World.size_alloc] at k2
  have HK1 := hide k1
  have HK2 := hide k2
  have hs1 : w.heap.size + 3 ≤ (((w.alloc (.cells #[.slice (some ⟨b, 0, none⟩) xs.length cap] 28)).alloc (.cells #[.slice none 0 0] 28)).alloc (.cells #[.slice none 0 0] 28)).heap.size := by simp
  have VL := hide (validS _ _ xs _ (OwI.rd O0.out) (Nat.le_refl _) hn)
  have E1 := hide (fun (h : okT xs = false) => show splCode xs k = 1 from (by
    have hT : readT xs = none := by
      cases hT : readT xs with
      | none => rfl
      | some T => rw [(readT_some hT).1] at h; cases h
    unfold splCode; rw [hT]))
  have E2 := hide (fun (h : okT xs = true) => show ∃ T, readT xs = some T from (by
    cases hT : readT xs with
    | none => rw [readT_none hT] at h; cases h
    | some T => exact ⟨T, rfl⟩))
  have NL := hide (fun h => splX_nil (xs := xs) (k := k) h)
  generalize hN : xs.length = n at *
  have HN := hide hN
  clear ho k1 k2 hN
  cases hv : okT xs with
  | false =>
    have hc := E1.out hv
    obtain ⟨hx, hy⟩ := NL.out (by rw [hc]; decide)
    rw [hv] at VL
    unfold SplPost
    rw [hc, hx, hy]
    clear hc hx hy hv E1 E2 NL
    go_enter Tryd.func8, Tryd.ntmps8
    go_wp2_with fail
    generalize (((w.alloc (.cells #[.slice (some ⟨b, 0, none⟩) n cap] 28)).alloc (.cells #[.slice none 0 0] 28)).alloc (.cells #[.slice none 0 0] 28)) = w0 at *
    refine VL.out.mono ?_
    rintro e w1 ⟨rfl, hb1⟩
    have s1 := hb1.size
    have B1 := hide (A0.out.trans (hb1.mono (by omega)))
    have c0 := (show Boxed w1 w.heap.size 28 _ from (hb1.block _ (by omega)).trans HK0.out).cell
    have p1 : Boxed w1 (w.heap.size + 1) 28 (.slice none 0 0) := (hb1.block _ (by omega)).trans HK1.out
    have p2 : Boxed w1 (w.heap.size + 1 + 1) 28 (.slice none 0 0) := (hb1.block _ (by omega)).trans HK2.out
    have d1 := p1.cell
    have d2 := p2.cell
    have f1 := p1.frozen
    have f2 := p2.frozen
    have g1 := p1.lt
    have g2 := p2.lt
    have P1 := hide ((p1.set (.slice none 0 0)).other (B' := w.heap.size + 1 + 1) (by omega) (.slice none 0 0))
    have P2 := hide ((p2.other (B' := w.heap.size + 1) (by omega) (.slice none 0 0)).set (.slice none 0 0))
    have B4 := hide ((B1.out.setCell (p := ⟨w.heap.size + 1, 0, none⟩) (by simp) (.slice none 0 0)).setCell (p := ⟨w.heap.size + 1 + 1, 0, none⟩) (by simp; omega) (.slice none 0 0))
    have e1 := P1.out.cell
    have e2 := P2.out.cell
    clear hb1 p1 p2
    go_wp2
    refine bodyPost_ret (v := .tuple #[.agg #[.slice none 0 0], .agg #[.slice none 0 0], .int .i64 1]) (by simp [results, Tryd.results8, go_sem, e1, e2]) rfl ⟨_, _, rfl, World.ownsRow_nil _ _ _ _, World.ownsRow_nil _ _ _ _, B4.out⟩
  | true =>
    obtain ⟨T, hT⟩ := E2.out hv
    obtain ⟨_, hbal, hxs, h8⟩ := readT_some hT
    have hcode : splCode xs k = if 0 ≤ k ∧ k ≤ (T.its : Int) then 0 else 2 := by unfold splCode; rw [hT]
    have htx : splX xs k = if 0 ≤ k ∧ k ≤ (T.its : Int) then (T.split k.toNat).1.told 0 else [] := by unfold splX; rw [hT]
    have hty : splY xs k = if 0 ≤ k ∧ k ≤ (T.its : Int) then (T.split k.toNat).2.told 0 else [] := by unfold splY; rw [hT]
    have hits : T.its = n := by rw [← HN.out, hxs, AT.told_length]
    rw [hv] at VL
    have HBAL := hide hbal
    have HXS := hide hxs
    have HIT := hide hits
    unfold SplPost
    rw [hcode, htx, hty]
    have bn : n ≤ 8192 := by have := HN.out; rw [← this]; exact h8
    clear hbal hxs hcode htx hty hT hv E1 E2 hits h8 NL
    by_cases hk : 0 ≤ k ∧ k ≤ (T.its : Int)
    · rw [if_pos hk, if_pos hk, if_pos hk]
      have hk1 : ¬ k < 0 := by omega
      have hk2 : ¬ (n : Int) < k := by have := HIT.out; omega
      obtain ⟨kn, rfl⟩ := Int.eq_ofNat_of_zero_le hk.1
      have INS := hide (fun W (ho : OwI W base (.slice (some ⟨b, 0, none⟩) n cap) (T.told 0)) => splitS T kn _ base W HBAL.out (by have := HIT.out; omega) (by omega) ho)
      rw [← HXS.out] at INS
      have e9 : ((kn : Int)).toNat = kn := by simp
      rw [e9]
      generalize (T.split kn).1 = U1 at *
      generalize (T.split kn).2 = U2 at *
      clear hk e9
      go_enter Tryd.func8, Tryd.ntmps8
      go_wp2_with fail
      generalize (((w.alloc (.cells #[.slice (some ⟨b, 0, none⟩) n cap] 28)).alloc (.cells #[.slice none 0 0] 28)).alloc (.cells #[.slice none 0 0] 28)) = w0 at *
      refine VL.out.mono ?_
      rintro e w1 ⟨rfl, hb1⟩
      have s1 := hb1.size
      have B1 := hide (A0.out.trans (hb1.mono (by omega)))
      have O1 := hide (show OwI w1 base _ xs from owns_below O0.out hb1 (Nat.le_refl _))
      have c0 := (show Boxed w1 w.heap.size 28 _ from (hb1.block _ (by omega)).trans HK0.out).cell
      have J1 := hide (show Boxed w1 (w.heap.size + 1) 28 (.slice none 0 0) from (hb1.block _ (by omega)).trans HK1.out)
      have J2 := hide (show Boxed w1 (w.heap.size + 1 + 1) 28 (.slice none 0 0) from (hb1.block _ (by omega)).trans HK2.out)
      clear hb1
      go_wp2_with fail
      refine (INS.out w1 O1.out).mono ?_
      rintro e w3 ⟨v1, v2, rfl, ho3, ho4, hb4⟩
      have s4 := hb4.size
      have p1 : Boxed w3 (w.heap.size + 1) 28 (.slice none 0 0) := (hb4.block _ (by omega)).trans J1.out
      have p2 : Boxed w3 (w.heap.size + 1 + 1) 28 (.slice none 0 0) := (hb4.block _ (by omega)).trans J2.out
      have B3 := hide ((B1.out.trans (hb4.mono (by omega))))
      obtain ⟨a1, l1, c1, rfl⟩ : ∃ ao ln cap, v1 = .slice ao ln cap := by
        rcases ho3.2 with ⟨rfl, _⟩ | ⟨g, cap, cur, rfl, _⟩
        · exact ⟨_, _, _, rfl⟩
        · exact ⟨_, _, _, rfl⟩
      obtain ⟨a2, l2, c2, rfl⟩ : ∃ ao ln cap, v2 = .slice ao ln cap := by
        rcases ho4.2 with ⟨rfl, _⟩ | ⟨g, cap, cur, rfl, _⟩
        · exact ⟨_, _, _, rfl⟩
        · exact ⟨_, _, _, rfl⟩
      have d1 := p1.cell
      have d2 := p2.cell
      have f1 := p1.frozen
      have f2 := p2.frozen
      have g1 := p1.lt
      have g2 := p2.lt
      have P1 := hide ((p1.set (.slice a1 l1 c1)).other (B' := w.heap.size + 1 + 1) (by omega) (.slice a2 l2 c2))
      have P2 := hide ((p2.other (B' := w.heap.size + 1) (by omega) (.slice a1 l1 c1)).set (.slice a2 l2 c2))
      have p2' := p2.other (B' := w.heap.size + 1) (by omega) (.slice a1 l1 c1)
      have FIN := hide (show ∀ v xs, OwI w3 w.heap.size v xs → OwI ((w3.setCell ⟨w.heap.size + 1, 0, none⟩ (.slice a1 l1 c1)).setCell ⟨w.heap.size + 1 + 1, 0, none⟩ (.slice a2 l2 c2)) w.heap.size v xs from fun v xs ho => by
        have h1 : OwI (w3.setCell ⟨w.heap.size + 1, 0, none⟩ (.slice a1 l1 c1)) w.heap.size v xs := ho.kept (grownBy_setCell' w3 (w.heap.size + 1) (.slice a1 l1 c1)) (.inr (p1.not_row (by decide) ho).symm)
        exact h1.kept (grownBy_setCell' _ (w.heap.size + 1 + 1) (.slice a2 l2 c2)) (.inr (p2'.not_row (by decide) h1).symm))
      have OF1 := hide (FIN.out _ _ (OwI.base (base' := w.heap.size) ho3 (by omega)))
      have OF2 := hide (FIN.out _ _ (OwI.base (base' := w.heap.size) ho4 (by omega)))
      have B4 := hide ((B3.out.setCell (p := ⟨w.heap.size + 1, 0, none⟩) (by simp) (.slice a1 l1 c1)).setCell (p := ⟨w.heap.size + 1 + 1, 0, none⟩) (by simp; omega) (.slice a2 l2 c2))
      have e1 := P1.out.cell
      have e2 := P2.out.cell
      clear hb4 ho3 ho4 J1 J2 p1 p2 p2' FIN
      go_wp2
      refine bodyPost_ret (v := .tuple #[.agg #[.slice a1 l1 c1], .agg #[.slice a2 l2 c2], .int .i64 0]) (by simp [results, Tryd.results8, go_sem, e1, e2]) rfl ⟨_, _, rfl, OF1.out, OF2.out, B4.out⟩
    · rw [if_neg hk, if_neg hk, if_neg hk]
      have hkk : k < 0 ∨ (¬ k < 0 ∧ (n : Int) < k) := by have := HIT.out; omega
      clear hk
      rcases hkk with hk1 | ⟨hk1, hk2⟩
      all_goals
        go_enter Tryd.func8, Tryd.ntmps8
        go_wp2_with fail
        generalize (((w.alloc (.cells #[.slice (some ⟨b, 0, none⟩) n cap] 28)).alloc (.cells #[.slice none 0 0] 28)).alloc (.cells #[.slice none 0 0] 28)) = w0 at *
        refine VL.out.mono ?_
        rintro e w1 ⟨rfl, hb1⟩
        have s1 := hb1.size
        have B1 := hide (A0.out.trans (hb1.mono (by omega)))
        have c0 := (show Boxed w1 w.heap.size 28 _ from (hb1.block _ (by omega)).trans HK0.out).cell
        have p1 : Boxed w1 (w.heap.size + 1) 28 (.slice none 0 0) := (hb1.block _ (by omega)).trans HK1.out
        have p2 : Boxed w1 (w.heap.size + 1 + 1) 28 (.slice none 0 0) := (hb1.block _ (by omega)).trans HK2.out
        have d1 := p1.cell
        have d2 := p2.cell
        have f1 := p1.frozen
        have f2 := p2.frozen
        have g1 := p1.lt
        have g2 := p2.lt
        have P1 := hide ((p1.set (.slice none 0 0)).other (B' := w.heap.size + 1 + 1) (by omega) (.slice none 0 0))
        have P2 := hide ((p2.other (B' := w.heap.size + 1) (by omega) (.slice none 0 0)).set (.slice none 0 0))
        have B4 := hide ((B1.out.setCell (p := ⟨w.heap.size + 1, 0, none⟩) (by simp) (.slice none 0 0)).setCell (p := ⟨w.heap.size + 1 + 1, 0, none⟩) (by simp; omega) (.slice none 0 0))
        have e1 := P1.out.cell
        have e2 := P2.out.cell
        clear hb1 p1 p2
        go_wp2
        refine bodyPost_ret (v := .tuple #[.agg #[.slice none 0 0], .agg #[.slice none 0 0], .int .i64 2]) (by simp [results, Tryd.results8, go_sem, e1, e2]) rfl ⟨_, _, rfl, World.ownsRow_nil _ _ _ _, World.ownsRow_nil _ _ _ _, B4.out⟩
end Go.Proofs.YtbgngikejgihgafDoor
