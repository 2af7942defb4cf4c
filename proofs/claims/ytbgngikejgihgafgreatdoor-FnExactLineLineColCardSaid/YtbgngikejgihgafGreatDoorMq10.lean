import Derived.Test.YtbgngikejgihgafGreatDoorMq09
import Derived.Test.YtbgngikejgihgafGreatDoorProg
import Derived.Test.YtbgngikejgihgafGreatDoorMq01
import Derived.WalkKit
import Derived.WalkLawsBesides
namespace Go.Proofs.YtbgngikejgihgafGreatDoor
open Go Go.RowKit
set_option linter.unusedVariables false

/-- A block of two cells. -/
def D2 (w : World) (b : Nat) (x y : Value) (t : TypeId) : Prop := w.heap[b]? = some (.cells #[x, y] t (0, 0))
theorem D2.c {w : World} {b : Nat} {x y : Value} {t : TypeId} (h : D2 w b x y t) : w.cell? ⟨b, 0, none⟩ = some x ∧ w.cell? ⟨b, 1, none⟩ = some y := by
  refine ⟨?_, ?_⟩ <;> rw [cell_of_row w b _ _ _ _ h] <;> rfl
theorem D2.fz {w : World} {b : Nat} {x y : Value} {t : TypeId} (h : D2 w b x y t) (j : Nat) : w.frozen? ⟨b, j, none⟩ = false := frozen_of_row w b j _ _ h
theorem D2.lt {w : World} {b : Nat} {x y : Value} {t : TypeId} (h : D2 w b x y t) : b < w.heap.size := (Array.getElem?_eq_some_iff.1 h).1
theorem D2.below {B : Nat} {w w' : World} {b : Nat} {x y : Value} {t : TypeId} (h : D2 w b x y t) (hb : Below B w w') (hB : b < B) : D2 w' b x y t := (hb.block b hB).trans h
theorem D2.new (w : World) (x y : Value) (t : TypeId) : D2 (w.alloc (.cells #[x, y] t)) w.heap.size x y t := heap_alloc_new w (.cells #[x, y] t)
theorem below_drwL (B : Nat) (w : World) (n : Nat) : Below B w (w.drewN n) := by
  induction n generalizing w with
  | zero => exact Below.refl _ _
  | succ n ih => exact ⟨(ih w.drew).os, (ih w.drew).tape, (ih w.drew).output, (ih w.drew).size, (ih w.drew).block⟩

set_option maxHeartbeats 1000000 in
set_option maxRecDepth 100000 in
theorem eqLBL (gs : List Gr) (st : List Int) (vr vt vr' vt' : Value) (lo hi lo' hi' : Nat) (w : World) (h1 : OwL w lo hi vr vt gs st) (h2 : OwL w lo' hi' vr' vt' gs st) (hh : hi ≤ w.heap.size) (hh' : hi' ≤ w.heap.size) (hn : gs.length ≤ 1048576) (hs : ∀ x ∈ gs, x.cells.length ≤ 1048576) (ht : st.length ≤ 1048576) :
    Calls Tryz.prog 27 #[.agg #[vr, vt], .agg #[vr', vt']] w fun e w' => e = .returned (.bool true) ∧ Below w.heap.size w w' := by
  have A0 := hide (((Below.refl w.heap.size w).alloc (Nat.le_refl _) (.cells #[vr, vt] 40)).alloc (by simp) (.cells #[vr', vt'] 40))
  have hz : w.heap.size ≤ ((w.alloc (.cells #[vr, vt] 40)).alloc (.cells #[vr', vt'] 40)).heap.size := A0.out.size
  have O1 := hide (h1.below A0.out hh)
  have O2 := hide (h2.below A0.out hh')
  obtain ⟨a1, c1, a2, c2, rfl, rfl⟩ := h1.val
  obtain ⟨a3, c3, a4, c4, rfl, rfl⟩ := h2.val
  have K1 := hide (show D2 ((w.alloc (.cells #[.slice a1 gs.length c1, .slice a2 st.length c2] 40)).alloc (.cells #[.slice a3 gs.length c3, .slice a4 st.length c4] 40)) w.heap.size (.slice a1 gs.length c1) (.slice a2 st.length c2) 40 from (Below.heap_alloc _ _ _ (by simp)).trans (heap_alloc_new _ _))
  have K2 := hide (show D2 ((w.alloc (.cells #[.slice a1 gs.length c1, .slice a2 st.length c2] 40)).alloc (.cells #[.slice a3 gs.length c3, .slice a4 st.length c4] 40)) (w.heap.size + 1) (.slice a3 gs.length c3) (.slice a4 st.length c4) 40 from (by have h9 := D2.new (w.alloc (.cells #[.slice a1 gs.length c1, .slice a2 st.length c2] 40)) (.slice a3 gs.length c3) (.slice a4 st.length c4) 40; rw [World.size_alloc] at h9; exact h9))
  have hz2 : w.heap.size + 1 < ((w.alloc (.cells #[.slice a1 gs.length c1, .slice a2 st.length c2] 40)).alloc (.cells #[.slice a3 gs.length c3, .slice a4 st.length c4] 40)).heap.size := by simp
  obtain ⟨vs1, R1⟩ := O1.out.rows
  obtain ⟨vs2, R2⟩ := O2.out.rows
  have E1 := hide (eqGapSN gs vs1 vs2 _ _ lo hi lo' hi' _ R1 R2 (by omega) (by omega) hn hs)
  have E2 := hide (fun w h1 h2 => eq64 st (.slice a2 st.length c2) (.slice a4 st.length c4) w h1 h2 (by omega))
  clear h1 h2 R1 R2 hs
  generalize hN : gs.length = n at *
  generalize hM : st.length = m at *
  clear hN hM
  go_enter Tryz.func27, Tryz.ntmps27
  go_wp2_with fail
  generalize (w.alloc (.cells #[.slice a1 n c1, .slice a2 m c2] 40)).alloc (.cells #[.slice a3 n c3, .slice a4 m c4] 40) = w0 at *
  refine E1.out.mono ?_
  rintro e w1 ⟨rfl, hb1⟩
  have P1 := hide (O1.out.below hb1 (by omega)).starts
  have P2 := hide (O2.out.below hb1 (by omega)).starts
  have d1 := (D2.c (K1.out.below hb1 (by omega))).2
  have d2 := (D2.c (K2.out.below hb1 (by omega))).2
  have B1 := hide (A0.out.trans (hb1.mono hz))
  clear hb1 O1 O2 K1 K2 A0 E1
  go_wp2_with fail
  refine (E2.out _ (Rd.of_owns P1.out) (Rd.of_owns P2.out)).mono ?_
  rintro e w2 ⟨rfl, k, hk⟩
  have B2 := hide (show Below w.heap.size w w2 from (by rw [hk]; exact B1.out.trans (below_drwL _ _ _)))
  clear hk
  go_wp2
  go_ret
  exact ⟨rfl, B2.out⟩

set_option maxHeartbeats 1000000 in
set_option maxRecDepth 100000 in
theorem markLBL (gs : List Gr) (st : List Int) (vr vt : Value) (lo hi : Nat) (k0 : Int) (w : World) (h : OwL w lo hi vr vt gs st) (hl : lo ≤ hi) (hh : hi ≤ w.heap.size) (hn : totG gs ≤ 1048576) (ht : st.length ≤ 1048576) (h0 : 0 ≤ k0) (h1 : k0 ≤ 1048576) :
    Calls Tryz.prog 28 #[.agg #[vr, vt], .int .i64 k0] w fun e w' => e = .returned (.int .i64 (k0 + totG gs + st.length)) ∧ OwL w' lo hi vr vt (mkG k0 gs) (mks (k0 + totG gs) st.length) ∧ Kp lo hi w w' := by
  have A0 := hide ((Below.refl w.heap.size w).alloc (Nat.le_refl _) (.cells #[vr, vt] 40))
  have O1 := hide (h.below A0.out hh)
  have K0 := hide (D2.new w vr vt 40)
  have hs0 : w.heap.size < (w.alloc (.cells #[vr, vt] 40)).heap.size := by simp
  obtain ⟨a1, c1, a2, c2, rfl, rfl⟩ := h.val
  obtain ⟨vs, R⟩ := O1.out.rows
  have M1 := hide (markGapSN gs vs _ lo hi k0 _ R (by omega) h0 (by omega))
  have M2 := hide (fun w h => markIntN st (.slice a2 st.length c2) lo (k0 + totG gs) w h (by omega) (by omega) (by omega))
  clear h R
  generalize hT : totG gs = T at *
  generalize hN : gs.length = n at *
  generalize hM : st.length = m at *
  have HM := hide hM
  clear hN hM hT
  go_enter Tryz.func28, Tryz.ntmps28
  go_wp2_with fail
  generalize w.alloc (.cells #[.slice a1 n c1, .slice a2 m c2] 40) = w0 at *
  refine M1.out.mono ?_
  rintro e w1 ⟨rfl, ho1, hk1, hkk1⟩
  have KP0 := hide (Kp.of_below (lo := lo) (hi := hi) A0.out)
  have K1 := hide (KP0.out.trans hk1)
  have d1 := (D2.c (show D2 w1 _ _ _ _ from (hk1.block w.heap.size hs0 (.inr hh)).trans K0.out)).2
  have S1 := hide (show w1.ownsRow lo 3 1 (.slice a2 m c2) m (ints .i64 st) from hkk1 _ _ _ _ _ _ (by decide) (by decide) (by have h9 := O1.out.starts; unfold o64 at h9; rw [HM.out] at h9; exact h9))
  have SB := hide O1.out.bl
  have G1 := hide ho1
  clear A0 K0 M1 KP0 O1 ho1 hk1 hkk1
  go_wp2_with fail
  refine (M2.out w1 (by show World.ownsRow _ _ _ _ _ _ _; rw [HM.out]; exact S1.out)).mono ?_
  rintro e w2 ⟨rfl, ho2, hg2⟩
  have G2 := hide (G1.out.kept S1.out (by decide) (by decide) hg2)
  have K2 := hide (K1.out.trans (Kp.of_grown hg2 (fun q hq => ⟨(S1.out.lt q hq).1, SB.out q hq⟩)))
  have O2 := hide ho2
  clear ho2 hg2 G1 K1
  go_wp2
  go_ret
  exact ⟨rfl, ⟨⟨vs, G2.out⟩, O2.out, SB.out⟩, K2.out⟩

set_option maxHeartbeats 1000000 in
set_option maxRecDepth 100000 in
theorem heldLBL (gs : List Gr) (m : Nat) (vr vt : Value) (lo hi : Nat) (k0 : Int) (w : World) (h : OwL w lo hi vr vt (mkG k0 gs) (mks (k0 + totG gs) m)) (hh : hi ≤ w.heap.size) (hn : totG gs ≤ 1048576) (ht : m ≤ 1048576) (h0 : 0 ≤ k0) (h1 : k0 ≤ 1048576) :
    Calls Tryz.prog 29 #[.agg #[vr, vt], .int .i64 k0] w fun e w' => e = .returned (.int .i64 (k0 + totG gs + m)) ∧ Below w.heap.size w w' := by
  have A0 := hide ((Below.refl w.heap.size w).alloc (Nat.le_refl _) (.cells #[vr, vt] 40))
  have O1 := hide (h.below A0.out hh)
  have K0 := hide (D2.new w vr vt 40)
  obtain ⟨a1, c1, a2, c2, rfl, rfl⟩ := h.val
  obtain ⟨vs, R⟩ := O1.out.rows
  have M1 := hide (heldGapSN gs vs _ lo hi k0 _ R (by omega) h0 (by omega))
  have M2 := hide (heldIntN (.slice a2 (mks (k0 + totG gs) m).length c2) m (k0 + totG gs) _ (Rd.of_owns O1.out.starts) (by omega) (by omega) (by omega))
  have g1 : ¬ (k0 + (totG gs : Int)) < 0 := by omega
  have g2 : ¬ (k0 + (totG gs : Int) + m) < 0 := by omega
  have d1 := (D2.c K0.out).2
  clear h R O1 K0
  generalize (mks (k0 + totG gs) m).length = m' at *
  generalize totG gs = T at *
  generalize (mkG k0 gs).length = n at *
  go_enter Tryz.func29, Tryz.ntmps29
  go_wp2_with fail
  generalize w.alloc (.cells #[.slice a1 n c1, .slice a2 m' c2] 40) = w0 at *
  refine M1.out.mono ?_
  rintro e w1 ⟨rfl, hw1⟩
  have hw2 := hw1.symm
  subst hw2
  go_wp2_with fail
  refine M2.out.mono ?_
  rintro e w2 ⟨rfl, hw2⟩
  have hw3 := hw2.symm
  subst hw3
  go_wp2
  go_ret
  exact ⟨rfl, A0.out⟩
end Go.Proofs.YtbgngikejgihgafGreatDoor

namespace Go.Proofs.YtbgngikejgihgafGreatDoor
open Go Go.RowKit
set_option linter.unusedVariables false

set_option maxHeartbeats 1000000 in
theorem withinI (v lo hi : Int) (w : World) : Calls Tryz.prog 93 #[.int .i64 v, .int .i64 lo, .int .i64 hi] w fun e w' => e = .returned (.bool (decide (lo ≤ v ∧ v ≤ hi))) ∧ w' = w := by
  by_cases h0 : lo ≤ v
  · by_cases h1 : v ≤ hi
    · have hd : decide (lo ≤ v ∧ v ≤ hi) = true := by simp [h0, h1]
      rw [hd]; clear hd
      go_enter Tryz.func93, Tryz.ntmps93
      go_wp2
      go_ret
      exact ⟨rfl, rfl⟩
    · have hd : decide (lo ≤ v ∧ v ≤ hi) = false := by simp [h0, h1]
      rw [hd]; clear hd
      go_enter Tryz.func93, Tryz.ntmps93
      go_wp2
      go_ret
      exact ⟨rfl, rfl⟩
  · have hd : decide (lo ≤ v ∧ v ≤ hi) = false := by simp [h0]
    rw [hd]; clear hd
    go_enter Tryz.func93, Tryz.ntmps93
    go_wp2
    go_ret
    exact ⟨rfl, rfl⟩

/-- An error that is nothing, or a code. -/
def errV (ok : Bool) (c : Int) : Value := if ok then .nilIface else .iface 121 (.int .i64 c)

end Go.Proofs.YtbgngikejgihgafGreatDoor
