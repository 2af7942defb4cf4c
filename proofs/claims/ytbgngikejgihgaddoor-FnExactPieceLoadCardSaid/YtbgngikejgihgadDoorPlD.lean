import Derived.Test.YtbgngikejgihgadDoorPlT
import Derived.Test.YtbgngikejgihgadDoorTPlant
import Derived.Test.YtbgngikejgihgadDoorTNode
namespace Go.Proofs.YtbgngikejgihgadDoor
open Go Go.RowKit
set_option linter.unusedVariables false

theorem midT_ok {f : Nat} {ps : List Pc} (hf : ps.length ≤ f) (hp : ∀ p ∈ ps, pcOk p = true) (hs : (midT f ps).rns ≤ 8192) : (midT f ps).ok :=
  ⟨fun p h => hp p (by rw [midT_flat f ps hf] at h; exact h), hs⟩

set_option maxHeartbeats 4000000 in
set_option maxRecDepth 100000 in
theorem middledN : ∀ (f : Nat) (ps : List Pc) (B : Nat) (v : Value) (w : World), ps.length ≤ f → RdP B w v ps → B ≤ w.heap.size → ps.length ≤ 8192 → (midT f ps).ok →
    Calls Tryd.prog 100 #[v] w fun e w' => ∃ u bs, e = .returned (.pointer u) ∧ Lies w' w.heap.size (midT f ps) u bs ∧ Below w.heap.size w w' := by
  intro f
  induction f with
  | zero =>
    intro ps B v w hf hr hB hn hok
    obtain rfl : ps = [] := List.eq_nil_of_length_eq_zero (by omega)
    obtain ⟨ao, cap, rfl⟩ : ∃ ao cap, v = .slice ao 0 cap := by
      rcases hr with ⟨ao, cap, rfl, _⟩ | ⟨_, _, _, _, hp, _⟩
      · exact ⟨_, _, rfl⟩
      · simp at hp
    go_enter Tryd.func100, Tryd.ntmps100
    go_wp2
    go_ret
    exact ⟨none, [], rfl, ⟨rfl, rfl⟩, Below.refl _ _⟩
  | succ f ih =>
    intro ps B v w hf hr hB hn hok
    have IH := hide ih
    clear ih
    rcases hr with ⟨ao, cap, rfl, rfl⟩ | ⟨b, o, cap, rfl, hp, hb, hc⟩
    · rw [midT_nil]
      go_enter Tryd.func100, Tryd.ntmps100
      go_wp2
      go_ret
      exact ⟨none, [], rfl, ⟨rfl, rfl⟩, Below.refl _ _⟩
    · have HR := hide (show RdP B w (.slice (some ⟨b, o, none⟩) ps.length cap) ps from .inr ⟨b, o, cap, rfl, hp, hb, hc⟩)
      have hml : ps.length / 2 < ps.length := by omega
      obtain ⟨p, hpp⟩ : ∃ p, ps[ps.length / 2]? = some p := ⟨_, List.getElem?_eq_getElem hml⟩
      obtain ⟨a0, a1, a2⟩ := hc _ p hpp
      rw [midT_some hpp] at hok ⊢
      unfold maxLen at hp
      obtain ⟨m, hm⟩ : ∃ m, m = ps.length / 2 := ⟨_, rfl⟩
      rw [← hm] at hml a0 a1 a2 hok
      rw [← hm]
      obtain ⟨n, hN⟩ : ∃ n, n = ps.length := ⟨_, rfl⟩
      have hdiv : (n : Int) / 2 = (m : Int) := by rw [hm, hN]; omega
      have hn0 : ((n : Int) == 0) = false := by simp; omega
      rw [← hN] at hp hml hn hf
      rw [← hN]
      have L1 := hide (HR.out.cutL m (by rw [← hN]; omega))
      have lL : (ps.take m).length = m := by rw [List.length_take, ← hN]; omega
      have lR : (ps.drop (m + 1)).length = n - (m + 1) := by rw [List.length_drop, ← hN]
      have I1 := hide (fun W hr hW => IH.out (ps.take m) B (.slice (some ⟨b, o, none⟩) m cap) W (by omega) hr hW (by omega) hok.left)
      have HOK := hide hok
      have hmn : (m : Int) < (n : Int) := by omega
      have hm0 : ¬ (m : Int) < 0 := by omega
      have hmc : (m : Int) ≤ (cap : Int) := by omega
      have hm1 : (m : Int) + 1 ≤ (n : Int) := by omega
      have hm1c : (m : Int) + 1 ≤ (cap : Int) := by omega
      have hbw : b < w.heap.size := by omega
      have PL := hide (fun (ul ur : Option Addr) (bl br : List Nat) (W : World) hL hR hbase => plantN (midT f (ps.take m)) p (midT f (ps.drop (m + 1))) ul ur bl br w.heap.size W hL hR HOK.out hbase)
      unfold pcV at PL
      have hwr : IntKind.i64.wrap ((m : Int) + 1) = (m : Int) + 1 := by rw [IntKind.wrap_i64]; omega
      have hm10 : (0 : Int) ≤ (m : Int) + 1 := by omega
      by_cases hck : cap = m + 1
      case' pos =>
        have hnm : n = m + 1 := by omega
        have hdrop : ps.drop (m + 1) = [] := List.drop_eq_nil_of_le (by omega)
        have R1 := hide (fun (W : World) (hb2 : Below w.heap.size w W) => show RdP B W (.slice (some ⟨b, o, none⟩) 0 0) (ps.drop (m + 1)) from .inl ⟨_, _, rfl, hdrop⟩)
        have I2 := hide (fun W hr hW => IH.out (ps.drop (m + 1)) B (.slice (some ⟨b, o, none⟩) 0 0) W (by omega) hr hW (by omega) hok.right)
        have hdiv2 : ((m : Int) + 1) / 2 = (m : Int) := by omega
        clear hdrop HR hm hN lL lR hdiv hok hc hpp
        subst hnm
        subst hck
      case' neg =>
        have R1 := hide (fun (W : World) (hb2 : Below w.heap.size w W) => show RdP B W (.slice (some ⟨b, o + (m + 1) * 3, none⟩) (n - (m + 1)) (cap - (m + 1))) (ps.drop (m + 1)) from (by
          have h9 := HR.out.cutR (m + 1) (ao := some ⟨b, o + (m + 1) * 3, none⟩) (by rw [← hN]; omega) (fun _ => rfl)
          rw [← hN] at h9; exact h9.below hb2 hB))
        have I2 := hide (fun W hr hW => IH.out (ps.drop (m + 1)) B (.slice (some ⟨b, o + (m + 1) * 3, none⟩) (n - (m + 1)) (cap - (m + 1))) W (by omega) hr hW (by omega) hok.right)
        clear HR hm hN lL lR hok hc hpp
        have k1 : ¬ (cap - (m + 1) = 0) := by omega
      all_goals
        generalize midT f (ps.take m) = TL at *
        generalize midT f (ps.drop (m + 1)) = TR at *
        have flag : True := trivial
        go_enter Tryd.func100, Tryd.ntmps100
        go_wp2_with fail
        go_region_with (first
          | (go_at_call 100; clear flag; refine (I1.out _ (by exact L1.out) (by exact hB)).mono ?_; rintro e x1 ⟨u1, bs1, rfl, hl1, hb1⟩; have BX1 : Hid (Below w.heap.size w x1) := hide ⟨hb1.os, hb1.tape, hb1.output, hb1.size, hb1.block⟩; have LI1 := hide (show Lies x1 w.heap.size TL u1 bs1 from hl1); have y1 := BX1.out.size; have e0 := (BX1.out.cell (p := ⟨b, o + m * 3, none⟩) hbw).trans a0; have e1 := (BX1.out.cell (p := ⟨b, o + m * 3 + 1, none⟩) hbw).trans a1; have e2 := (BX1.out.cell (p := ⟨b, o + m * 3 + 2, none⟩) hbw).trans a2; clear hl1 hb1)
          | (go_at_call 100; refine (I2.out _ (by exact R1.out x1 BX1.out) (by exact Nat.le_trans hB y1)).mono ?_; rintro e x2 ⟨u2, bs2, rfl, hl2, hb2⟩; have BX2' : Hid (Below x1.heap.size x1 x2) := hide ⟨hb2.os, hb2.tape, hb2.output, hb2.size, hb2.block⟩; have BX2 : Hid (Below w.heap.size w x2) := hide (BX1.out.trans (BX2'.out.mono y1)); have LI2 := hide (Lies.base y1 (show Lies x2 x1.heap.size TR u2 bs2 from hl2)); have LI3 := hide (LI1.out.below BX2'.out (Nat.le_refl _)); have y2 := BX2.out.size; have g0 := (BX2.out.cell (p := ⟨b, o + m * 3, none⟩) hbw).trans a0; have g1 := (BX2.out.cell (p := ⟨b, o + m * 3 + 1, none⟩) hbw).trans a1; have g2 := (BX2.out.cell (p := ⟨b, o + m * 3 + 2, none⟩) hbw).trans a2; clear hl2 hb2)
          | (go_at_call 134; refine (PL.out u1 u2 bs1 bs2 _ (by exact LI3.out) (by exact LI2.out) (by exact y2)).mono ?_; rintro e x3 ⟨q3, rfl, hq3, hl3, hb3⟩; have LI4 := hide hl3; have BX3 : Hid (Below w.heap.size w x3) := hide (BX2.out.trans ((show Below x2.heap.size x2 x3 from ⟨hb3.os, hb3.tape, hb3.output, hb3.size, hb3.block⟩).mono y2)); clear hl3 hb3))
        all_goals (
          go_wp2
          go_ret
          exact ⟨_, _, rfl, LI4.out, BX3.out⟩)
end Go.Proofs.YtbgngikejgihgadDoor
