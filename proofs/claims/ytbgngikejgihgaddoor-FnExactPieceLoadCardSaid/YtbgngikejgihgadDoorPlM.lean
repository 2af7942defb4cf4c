import Derived.Test.YtbgngikejgihgadDoorPlP
import Derived.Laws.AppendOwnNone
import Derived.Lib.Hide
namespace Go.Proofs.YtbgngikejgihgadDoor
open Go Go.RowKit
set_option linter.unusedVariables false

theorem OwI.cells0 {w : World} {base g cap : Nat} {xs : List It} (h : OwI w base (.slice (some ⟨g, 0, none⟩) xs.length cap) xs) : ∀ j u, (itVs xs)[j]? = some u → w.cell? ((⟨g, 0, none⟩ : Addr).add j) = some u := OwI.cells h
theorem ownI_app {W : World} {base : Nat} {v : Value} {E F : List It} {n m : Nat} (hn : E.length = n) (hm : F.length = m) (h : W.ownsRow base 58 4 v (n + m) (itVs E ++ itVs F)) : OwI W base v (E ++ F) := by
  subst hn hm; unfold OwI; rw [List.length_append, itVs_append]; exact h
theorem midT_len (f : Nat) (ps : List Pc) (h : ps.length ≤ f) (d : Int) : ((midT f ps).told d).length = ps.length := by
  rw [AT.told_length, ← AT.flat_length, midT_flat f ps h]

set_option maxHeartbeats 4000000 in
set_option maxRecDepth 100000 in
theorem middleL : ∀ (f : Nat) (ps : List Pc) (B : Nat) (v : Value) (lv : Int) (w : World), ps.length ≤ f → RdP B w v ps → B ≤ w.heap.size → ps.length ≤ 8192 → (0 ≤ lv ∧ lv + f ≤ 100000) →
    Calls Tryd.prog 56 #[v, .int .i64 lv] w fun e w' => ∃ v', e = .returned v' ∧ OwI w' w.heap.size v' ((midT f ps).told lv) ∧ Below w.heap.size w w' := by
  intro f
  induction f with
  | zero =>
    intro ps B v lv w hf hr hB hn hlv
    obtain rfl : ps = [] := List.eq_nil_of_length_eq_zero (by omega)
    obtain ⟨ao, cap, rfl⟩ : ∃ ao cap, v = .slice ao 0 cap := by
      rcases hr with ⟨ao, cap, rfl, _⟩ | ⟨_, _, _, _, hp, _⟩
      · exact ⟨_, _, rfl⟩
      · simp at hp
    go_enter Tryd.func56, Tryd.ntmps56
    go_wp2
    go_ret
    exact ⟨_, rfl, World.ownsRow_nil _ _ _ _, Below.refl _ _⟩
  | succ f ih =>
    intro ps B v lv w hf hr hB hn hlv
    have IH := hide ih
    clear ih
    obtain ⟨i0, hi, hz0, hz1, hz2⟩ := info_parts Tryd.infoIT
    rcases hr with ⟨ao, cap, rfl, rfl⟩ | ⟨b, o, cap, rfl, hp, hb, hc⟩
    · rw [midT_nil]
      go_enter Tryd.func56, Tryd.ntmps56
      go_wp2
      go_ret
      exact ⟨_, rfl, World.ownsRow_nil _ _ _ _, Below.refl _ _⟩
    · have HR := hide (show RdP B w (.slice (some ⟨b, o, none⟩) ps.length cap) ps from .inr ⟨b, o, cap, rfl, hp, hb, hc⟩)
      have hml : ps.length / 2 < ps.length := by omega
      obtain ⟨p, hpp⟩ : ∃ p, ps[ps.length / 2]? = some p := ⟨_, List.getElem?_eq_getElem hml⟩
      obtain ⟨a0, a1, a2⟩ := hc _ p hpp
      have HT := hide (midT_some (f := f) hpp)
      generalize midT (f + 1) ps = TT at HT ⊢
      unfold maxLen at hp
      obtain ⟨m, hm⟩ : ∃ m, m = ps.length / 2 := ⟨_, rfl⟩
      rw [← hm] at hml a0 a1 a2 HT
      obtain ⟨n, hN⟩ : ∃ n, n = ps.length := ⟨_, rfl⟩
      have hdiv : (n : Int) / 2 = (m : Int) := by rw [hm, hN]; omega
      have hn0 : ((n : Int) == 0) = false := by simp; omega
      rw [← hN] at hp hml hn hf
      rw [← hN]
      have HNN := hide hN
      have L1 := hide (HR.out.cutL m (by rw [← hN]; omega))
      obtain ⟨aR, haR⟩ : ∃ aR, aR = (if cap = m + 1 then some (⟨b, o, none⟩ : Addr) else some ⟨b, o + (m + 1) * 3, none⟩) := ⟨_, rfl⟩
      have R1 := hide (show RdP B w (.slice aR (n - (m + 1)) (cap - (m + 1))) (ps.drop (m + 1)) from (by
        have h9 := HR.out.cutR (m + 1) (ao := aR) (by rw [← hN]; omega) (fun h8 => by rw [← hN] at h8; rw [haR, if_neg (by omega)])
        rw [← hN] at h9; exact h9))
      have lL : (ps.take m).length = m := by rw [List.length_take, ← hN]; omega
      have lR : (ps.drop (m + 1)).length = n - (m + 1) := by rw [List.length_drop, ← hN]
      have LL := hide (midT_len f (ps.take m) (by omega) (lv + 1))
      have LR := hide (midT_len f (ps.drop (m + 1)) (by omega) (lv + 1))
      rw [lL] at LL
      rw [lR] at LR
      have HTD := hide (show TT.told lv = (midT f (ps.take m)).told (lv + 1) ++ ⟨p, lv⟩ :: (midT f (ps.drop (m + 1))).told (lv + 1) from (by rw [HT.out]; rfl))
      generalize TT.told lv = res at HTD ⊢
      have I1 := hide (IH.out (ps.take m) B (.slice (some ⟨b, o, none⟩) m cap) (lv + 1) w (by omega) L1.out hB (by omega) (by omega))
      by_cases hck : cap = m + 1
      case' pos =>
        have hnm : n = m + 1 := by omega
        have hdrop : ps.drop (m + 1) = [] := List.drop_eq_nil_of_le (by omega)
        have I2 := hide (fun W (hb2 : Below w.heap.size w W) (hW : B ≤ W.heap.size) => IH.out (ps.drop (m + 1)) B (.slice (some ⟨b, o, none⟩) 0 0) (lv + 1) W (by omega) (.inl ⟨_, _, rfl, hdrop⟩) hW (by omega) (by omega))
        have hdiv2 : ((m : Int) + 1) / 2 = (m : Int) := by omega
        clear hdrop R1 haR HR L1 hm hN lL lR hdiv
        subst hnm
        subst hck
      case' neg =>
        rw [if_neg hck] at haR
        subst haR
        have I2 := hide (fun W (hb2 : Below w.heap.size w W) (hW : B ≤ W.heap.size) => IH.out (ps.drop (m + 1)) B (.slice (some ⟨b, o + (m + 1) * 3, none⟩) (n - (m + 1)) (cap - (m + 1))) (lv + 1) W (by omega) (R1.out.below hb2 hB) hW (by omega) (by omega))
        clear R1 HR L1 hm hN lL lR
      all_goals
        generalize (midT f (ps.take m)).told (lv + 1) = tl at *
        generalize (midT f (ps.drop (m + 1))).told (lv + 1) = tr at *
        clear HT hc hpp
        go_enter Tryd.func56, Tryd.ntmps56
        go_wp2_with fail
        refine I1.out.mono ?_
        rintro e w1 ⟨v1, rfl, ho1, hb1⟩
        have B1 := hide hb1
        have z1 := hb1.size
        have e0 := (hb1.cell (p := ⟨b, o + m * 3, none⟩) (by show b < w.heap.size; omega)).trans a0
        have e1 := (hb1.cell (p := ⟨b, o + m * 3 + 1, none⟩) (by show b < w.heap.size; omega)).trans a1
        have e2 := (hb1.cell (p := ⟨b, o + m * 3 + 2, none⟩) (by show b < w.heap.size; omega)).trans a2
        have O1 := hide ho1
        have OA1 := hide (show (w1.alloc (.cells #[.int .i64 p.off, .int .i64 p.len, .int .i64 p.brk, .int .i64 lv] 58)).ownsRow w.heap.size 58 4 v1 m (itVs tl) from (by have h9 := O1.out; unfold OwI at h9; rw [LL.out] at h9; exact World.ownsRow.alloc h9 _))
        have NC := hide (newcells w1 58 [.int .i64 p.off, .int .i64 p.len, .int .i64 p.brk, .int .i64 lv])
        clear ho1 hb1 I1
        go_wp2_with (at_builtin; refine wpList_append_own _ rfl _ _ 35 rfl w.heap.size 58 i0 (.agg #[.int .i64 0, .int .i64 0, .int .i64 0, .int .i64 0]) 4 32 Tryd.underlying35 hi hz0 hz1 hz2 rfl (by decide) v1 m (itVs tl) rfl (by exact OA1.out) ⟨w1.heap.size, 0, none⟩ 1 1 [.int .i64 p.off, .int .i64 p.len, .int .i64 p.brk, .int .i64 lv] rfl rfl (by exact NC.out) (by intro u hu; simp at hu; rcases hu with rfl | rfl | rfl | rfl <;> rfl) (by unfold maxLen; omega) (by omega) (by first | omega | (simp; omega)) ?_; intro v2 w2 hoN hgN hnil; refine Hid.out ?_)
        refine Lib.hid ?_
        have O2 := hide (show OwI w2 w.heap.size v2 (tl ++ [⟨p, lv⟩]) from ownI_app (F := [⟨p, lv⟩]) LL.out rfl hoN)
        have B2 := hide ((B1.out.alloc z1 (.cells #[.int .i64 p.off, .int .i64 p.len, .int .i64 p.brk, .int .i64 lv] 58)).grown hgN (by simp; omega) (fun q hq => (O1.out.lt q hq).1))
        have z2 := B2.out.size
        have l2 : (tl ++ [(⟨p, lv⟩ : It)]).length = m + 1 := by rw [List.length_append, LL.out]; rfl
        have HL2 := hide l2
        clear hoN hgN hnil NC OA1 O1 B1 e0 e1 e2 l2
        go_wp2_with fail
        refine (I2.out w2 (B2.out) (by omega)).mono ?_
        rintro e w3 ⟨v3, rfl, ho3, hb3⟩
        have O3 := hide (show OwI w3 _ v3 tr from ho3)
        have P3 := hide (owns_below O2.out hb3 (Nat.le_refl _))
        have B3 := hide (B2.out.trans (hb3.mono z2))
        have z3 := B3.out.size
        have PA3 := hide (show w3.ownsRow w.heap.size 58 4 v2 (m + 1) (itVs (tl ++ [⟨p, lv⟩])) from (by have h9 := P3.out; rw [HL2.out] at h9; exact h9))
        clear hb3 O2 B2
        rcases OwI.shape ho3 with ⟨rfl, rfl⟩ | ⟨g3, c3, rfl, hc3, hm3, hg3, hl3⟩
        · clear ho3
          go_wp2_with (at_builtin; refine wpList_append_own_none rfl _ _ 35 rfl w.heap.size 58 i0 4 Tryd.underlying35 hi _ _ _ rfl (by exact PA3.out) rfl ?_)
          go_ret
          refine ⟨v2, rfl, ?_, B3.out⟩
          rw [HTD.out]
          exact P3.out
        · have LR3 := hide LR.out
          have SC := hide (OwI.cells O3.out)
          have hlr : tr.length ≤ 8192 := by rw [LR3.out]; omega
          clear ho3
          generalize hq3 : tr.length = q3 at *
          have HQ3 := hide hq3
          clear hq3
          go_wp2_with (at_builtin; refine wpList_append_own _ rfl _ _ 35 rfl w.heap.size 58 i0 (.agg #[.int .i64 0, .int .i64 0, .int .i64 0, .int .i64 0]) 4 32 Tryd.underlying35 hi hz0 hz1 hz2 rfl (by decide) v2 (m + 1) (itVs (tl ++ [⟨p, lv⟩])) rfl (by exact PA3.out) ⟨g3, 0, none⟩ q3 c3 (itVs tr) rfl (by rw [itVs_length, HQ3.out]) (by exact SC.out) (itVs_one tr) (by unfold maxLen; omega) (by omega) (by first | omega | (simp; omega)) ?_; intro v4 w4 hoN hgN hnil; refine Hid.out ?_)
          refine Lib.hid ?_
          have O4 := hide (show OwI w4 w.heap.size v4 (tl ++ [⟨p, lv⟩] ++ tr) from ownI_app HL2.out HQ3.out hoN)
          have B4 := hide (B3.out.grown hgN (by omega) (fun q hq => (P3.out.lt q hq).1))
          clear hoN hgN hnil
          go_wp2
          go_ret
          refine ⟨v4, rfl, ?_, B4.out⟩
          rw [HTD.out, show tl ++ ⟨p, lv⟩ :: tr = tl ++ [⟨p, lv⟩] ++ tr by simp]
          exact O4.out
end Go.Proofs.YtbgngikejgihgadDoor
