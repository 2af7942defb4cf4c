import Derived.Test.YtbgngikejgihgaeDoorTDeI
import Derived.Test.YtbgngikejgihgaeDoorLDel
import Derived.Test.YtbgngikejgihgaeDoorTVal
namespace Go.Proofs.YtbgngikejgihgaeDoor
open Go Go.RowKit
set_option linter.unusedVariables false

set_option maxHeartbeats 4000000 in
set_option maxRecDepth 100000 in
theorem specDel (base b cap : Nat) (xs : List It) (k : Int) (w : World) (ho : OwI w base (.slice (some ⟨b, 0, none⟩) xs.length cap) xs) (hn : xs.length ≤ 1048576) :
    Calls Tryd.prog 32 #[.agg #[.slice (some ⟨b, 0, none⟩) xs.length cap], .int .i64 k] w (DelPost w xs k) := by
  have A0 := hide (((Below.refl w.heap.size w).alloc (Nat.le_refl _) (.cells #[.slice (some ⟨b, 0, none⟩) xs.length cap] 33)).alloc (by simp) (.cells #[.slice none 0 0] 33))
  have O0 := hide (show OwI _ base _ xs from owns_below ho A0.out (Nat.le_refl _))
  have HK0 := hide (show Boxed ((w.alloc (.cells #[.slice (some ⟨b, 0, none⟩) xs.length cap] 33)).alloc (.cells #[.slice none 0 0] 33)) w.heap.size 33 (.slice (some ⟨b, 0, none⟩) xs.length cap) from (Boxed.new w 33 _).alloc _)
  have K2 := Boxed.new (w.alloc (.cells #[.slice (some ⟨b, 0, none⟩) xs.length cap] 33)) 33 (.slice none 0 0)
  rw [World.size_alloc] at K2
  have HK2 := hide K2
  have hs1 : w.heap.size + 2 ≤ ((w.alloc (.cells #[.slice (some ⟨b, 0, none⟩) xs.length cap] 33)).alloc (.cells #[.slice none 0 0] 33)).heap.size := by simp
  have VL := hide (validS _ _ xs _ (OwI.rd O0.out) (Nat.le_refl _) hn)
  have E1 := hide (fun (h : okT xs = false) => show delCode xs k = 1 ∧ delTree xs k = [] from (by
    have hT : readT xs = none := by
      cases hT : readT xs with
      | none => rfl
      | some T => rw [(readT_some hT).1] at h; cases h
    exact ⟨by unfold delCode; rw [hT], by unfold delTree; rw [hT]⟩))
  have E2 := hide (fun (h : okT xs = true) => show ∃ T, readT xs = some T from (by
    cases hT : readT xs with
    | none => rw [readT_none hT] at h; cases h
    | some T => exact ⟨T, rfl⟩))
  generalize hN : xs.length = n at *
  have HN := hide hN
  clear ho K2 hN
  cases hv : okT xs with
  | false =>
    obtain ⟨hc, ht⟩ := E1.out hv
    rw [hv] at VL
    unfold DelPost
    rw [hc, ht]
    clear hc ht hv E1 E2
    go_enter Tryd.func32, Tryd.ntmps32
    go_wp2_with fail
    generalize (w.alloc (.cells #[.slice (some ⟨b, 0, none⟩) n cap] 33)).alloc (.cells #[.slice none 0 0] 33) = w0 at *
    refine VL.out.mono ?_
    rintro e w1 ⟨rfl, hb1⟩
    have m2 : Boxed w1 (w.heap.size + 1) 33 (.slice none 0 0) := (hb1.block _ (by omega)).trans HK2.out
    have B1 := hide (A0.out.trans (hb1.mono (by omega)))
    have d1 := m2.cell
    have f1 := m2.frozen
    clear hb1
    go_wp2
    refine bodyPost_ret (v := .tuple #[.agg #[.slice none 0 0], .int .i64 1]) (by simp [results, Tryd.results32, go_sem, d1]) rfl ⟨_, rfl, World.ownsRow_nil _ _ _ _, ?_⟩
    repeat (first | exact B1.out | refine Below.setCell ?_ (by simp; omega) _ | refine Below.setCell ?_ (by simp) _)
  | true =>
    obtain ⟨T, hT⟩ := E2.out hv
    obtain ⟨_, hbal, hxs, h8⟩ := readT_some hT
    have hcode : delCode xs k = if 0 ≤ k ∧ k ≤ (T.its : Int) - 1 then 0 else 2 := by unfold delCode; rw [hT]
    have htree : delTree xs k = if 0 ≤ k ∧ k ≤ (T.its : Int) - 1 then (T.rem k.toNat).told 0 else [] := by unfold delTree; rw [hT]
    have hits : T.its = n := by rw [← HN.out, hxs, AT.told_length]
    rw [hv] at VL
    have HBAL := hide hbal
    have HXS := hide hxs
    have HIT := hide hits
    unfold DelPost
    rw [hcode, htree]
    have bn : n ≤ 8192 := by have := HN.out; rw [← this]; exact h8
    clear hbal hxs hcode htree hT hv E1 E2 hits h8
    by_cases hk : 0 ≤ k ∧ k ≤ (T.its : Int) - 1
    · rw [if_pos hk, if_pos hk]
      have hk1 : ¬ k < 0 := by omega
      have hk2 : ¬ (n : Int) ≤ k := by have := HIT.out; omega
      obtain ⟨kn, rfl⟩ := Int.eq_ofNat_of_zero_le hk.1
      have INS := hide (fun W (ho : OwI W base (.slice (some ⟨b, 0, none⟩) T.its cap) (T.told 0)) => deleteS T kn base b cap W HBAL.out (by have := HIT.out; omega) (by omega) ho)
      rw [HIT.out, ← HXS.out] at INS
      have e9 : ((kn : Int)).toNat = kn := by simp
      rw [e9]
      generalize T.rem kn = U at *
      clear hk e9
      go_enter Tryd.func32, Tryd.ntmps32
      go_wp2_with fail
      generalize (w.alloc (.cells #[.slice (some ⟨b, 0, none⟩) n cap] 33)).alloc (.cells #[.slice none 0 0] 33) = w0 at *
      refine VL.out.mono ?_
      rintro e w1 ⟨rfl, hb1⟩
      have s1 := hb1.size
      have B1 := hide (A0.out.trans (hb1.mono (by omega)))
      have O1 := hide (show OwI w1 base _ xs from owns_below O0.out hb1 (Nat.le_refl _))
      have c0 := (show Boxed w1 w.heap.size 33 _ from (hb1.block _ (by omega)).trans HK0.out).cell
      have J2 := hide (show Boxed w1 (w.heap.size + 1) 33 (.slice none 0 0) from (hb1.block _ (by omega)).trans HK2.out)
      clear hb1
      go_wp2_with fail
      refine (INS.out w1 O1.out).mono ?_
      rintro e w4 ⟨v1, rfl, ho4, hb4⟩
      have s4 := hb4.size
      have m2 : Boxed w4 (w.heap.size + 1) 33 (.slice none 0 0) := (hb4.block _ (by omega)).trans J2.out
      have B4 := hide ((B1.out.trans (hb4.mono (by omega))))
      obtain ⟨a1, l1', c1, rfl⟩ : ∃ ao ln cap, v1 = .slice ao ln cap := by
        rcases ho4.2 with ⟨rfl, _⟩ | ⟨g, cap, cur, rfl, _⟩
        · exact ⟨_, _, _, rfl⟩
        · exact ⟨_, _, _, rfl⟩
      have d1 := m2.cell
      have f1 := m2.frozen
      have g1 := m2.lt
      have O4 := hide (OwI.base (base' := w.heap.size) ho4 (by omega))
      have O5 := hide (show OwI (w4.setCell ⟨w.heap.size + 1, 0, none⟩ (.slice a1 l1' c1)) w.heap.size (.slice a1 l1' c1) (U.told 0) from O4.out.kept (grownBy_setCell' w4 (w.heap.size + 1) (.slice a1 l1' c1)) (.inr (m2.not_row (by decide) O4.out).symm))
      have B5 := hide (B4.out.setCell (p := ⟨w.heap.size + 1, 0, none⟩) (by simp) (.slice a1 l1' c1))
      have e1 := (m2.set (.slice a1 l1' c1)).cell
      clear ho4 hb4 m2 O4 J2
      go_wp2
      refine bodyPost_ret (v := .tuple #[.agg #[.slice a1 l1' c1], .int .i64 0]) (by simp [results, Tryd.results32, go_sem, e1]) rfl ⟨_, rfl, O5.out, B5.out⟩
    · rw [if_neg hk, if_neg hk]
      have hkk : k < 0 ∨ (¬ k < 0 ∧ (n : Int) ≤ k) := by have := HIT.out; omega
      clear hk
      rcases hkk with hk1 | ⟨hk1, hk2⟩
      all_goals
        go_enter Tryd.func32, Tryd.ntmps32
        go_wp2_with fail
        generalize (w.alloc (.cells #[.slice (some ⟨b, 0, none⟩) n cap] 33)).alloc (.cells #[.slice none 0 0] 33) = w0 at *
        refine VL.out.mono ?_
        rintro e w1 ⟨rfl, hb1⟩
        have s1 := hb1.size
        have B1 := hide (A0.out.trans (hb1.mono (by omega)))
        have c0 := (show Boxed w1 w.heap.size 33 _ from (hb1.block _ (by omega)).trans HK0.out).cell
        have m2 : Boxed w1 (w.heap.size + 1) 33 (.slice none 0 0) := (hb1.block _ (by omega)).trans HK2.out
        have d1 := m2.cell
        have f1 := m2.frozen
        clear hb1
        go_wp2
        refine bodyPost_ret (v := .tuple #[.agg #[.slice none 0 0], .int .i64 2]) (by simp [results, Tryd.results32, go_sem, d1]) rfl ⟨_, rfl, World.ownsRow_nil _ _ _ _, ?_⟩
        repeat (first | exact B1.out | refine Below.setCell ?_ (by simp; omega) _ | refine Below.setCell ?_ (by simp) _)
end Go.Proofs.YtbgngikejgihgaeDoor
