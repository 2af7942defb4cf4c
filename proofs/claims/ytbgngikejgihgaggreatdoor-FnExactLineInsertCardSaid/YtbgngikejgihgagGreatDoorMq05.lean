import Derived.Test.YtbgngikejgihgagGreatDoorMq04
import Derived.Test.YtbgngikejgihgagGreatDoorProg
import Derived.Test.YtbgngikejgihgagGreatDoorMq01
import Derived.WalkKit
import Derived.WalkLawsBesides
import Derived.Deep.QuietTactic
import Derived.BigQuiet
import Derived.Laws.AppendOwnNone
import Derived.Lib.SliceRun
namespace Go.Proofs.YtbgngikejgihgagGreatDoor
open Go Go.RowKit
set_option linter.unusedVariables false

set_option maxHeartbeats 1000000 in
set_option maxRecDepth 100000 in
theorem heldGapSN (gs : List Gr) (vs : List Value) (v : Value) (lo hi : Nat) (k0 : Int) (w : World) (h : OwG 152 w lo hi v vs (mkG k0 gs)) (hn : totG gs ≤ 1073741824) (h0 : 0 ≤ k0) (h1 : k0 ≤ 1073741824) :
    Calls Tryz.prog 61 #[v, .int .i64 k0] w fun e w' => e = .returned (.int .i64 (k0 + totG gs)) ∧ w' = w := by
  have hlt := totG_len gs
  have hml := mkG_len k0 gs
  rcases h.row.2 with ⟨rfl, q0⟩ | ⟨g, cap, cur, rfl, gb, _, c1, c2, _⟩
  · have e : gs = [] := List.eq_nil_of_length_eq_zero (by rw [← hml]; exact q0)
    subst e
    clear h
    go_enter Tryz.func61, Tryz.ntmps61
    go_wp2
    refine wp_loop_rounds 1 ?_
    rw [rounds_succ]
    go_wp2
    go_ret
    exact ⟨by simp [totG], rfl⟩
  · have H := hide h
    have TL := hide (fun (i : Nat) => totG_take_le gs i)
    unfold maxLen at c2
    obtain ⟨n, hN⟩ : ∃ n, n = gs.length := ⟨_, rfl⟩
    rw [hml] at c1 H ⊢
    rw [← hN] at c1 hlt H ⊢
    have HN := hide hN
    have HML := hide hml
    clear h hN hml
    go_enter Tryz.func61, Tryz.ntmps61
    go_wp2
    go_loop [1, 5] (fun kk i => ∃ j : Nat, j ≤ n ∧ kk = .int .i64 (k0 + totG (gs.take j)) ∧ i = .int .i64 j) (fun _ i => n - (intOf i).toNat)
    case atStart => exact ⟨0, Nat.zero_le _, by simp [totG], rfl⟩
    case round =>
      obtain ⟨j, hj, rfl, rfl⟩ := hrel
      have tl := TL.out j
      by_cases hlt : j < n
      · have hjg : j < gs.length := by rw [← HN.out]; exact hlt
        have hx : gs[j]? = some gs[j] := by simp [hjg]
        generalize gs[j] = x at hx
        have hx' := mkG_get (k0 := k0) hx
        obtain ⟨y, u, hy, hu⟩ := H.out.get (i := j) (by rw [HML.out]; exact hjg)
        rw [hx'] at hy
        cases hy
        have ts := totG_get hx
        have tn := totG_take_succ hx
        obtain ⟨p0, p1, p2⟩ := H.out.cells (by rw [HML.out, ← HN.out]) hx' hu
        have ho := H.out.inner hx' hu
        obtain ⟨ai, ci, hu'⟩ := o32_val ho
        rw [marks_length] at hu'
        generalize hT : totG (gs.take j) = T at *
        generalize hX : x.cells.length = xn at *
        have M := hide (held32 u xn (k0 + T) w (Rd.of_owns ho) (by omega) (by omega) (by omega))
        have tn' : ((totG (gs.take (j + 1)) : Nat) : Int) = (T : Int) + xn + 2 := by omega
        have z1 : (k0 + (T : Int) + xn != k0 + (T : Int) + xn) = false := by simp
        have z2 : (k0 + (T : Int) + xn + 1 != k0 + (T : Int) + xn + 1) = false := by simp
        have g1 : ¬ (k0 + (T : Int) + xn) < 0 := by omega
        have hlt' : (j : Int) < n := by omega
        subst hu'
        clear ho hx hx' hu
        go_wp2_with fail
        refine M.out.mono ?_
        rintro e w1 ⟨rfl, hw⟩
        have hw2 := hw.symm
        subst hw2
        clear hw
        go_wp2
        go_round
        case rel => exact ⟨j + 1, by omega, by rw [tn']; go_num, by go_num⟩
        case measure => simp [intOf]; omega
      · obtain rfl : j = n := by omega
        have e1 : gs.take j = gs := List.take_of_length_le (by have := HN.out; omega)
        rw [e1]
        clear e1
        go_wp2
        go_ret
        exact ⟨rfl, rfl⟩

/-- The numbers that the laws write into a row of ints. -/
def mks (k0 : Int) (n : Nat) : List Int := (List.range n).map fun i : Nat => k0 + (i : Int)
theorem mks_len (k0 : Int) (n : Nat) : (mks k0 n).length = n := by simp [mks]
theorem mks_getD {k0 : Int} {n i : Nat} (h : i < n) : (mks k0 n).getD i 0 = k0 + i := by simp [mks, List.getD_eq_getElem?_getD, h]
theorem mks_set {k0 : Int} {j : Nat} {zs : List Int} (h : j < zs.length) : (mks k0 j ++ zs.drop j).set j (k0 + j) = mks k0 (j + 1) ++ zs.drop (j + 1) := by
  rw [List.drop_eq_getElem_cons h, List.set_append_right _ _ (by rw [mks_len]; exact Nat.le_refl _), mks_len, Nat.sub_self, List.set_cons_zero]
  simp [mks, List.range_succ]
set_option maxHeartbeats 400000 in
theorem markIntN (zs : List Int) (v : Value) (base : Nat) (k0 : Int) (w : World) (h : o64 w base v zs) (hn : zs.length ≤ 1073741824) (h0 : 0 ≤ k0) (h1 : k0 ≤ 1099511627776) :
    Calls Tryz.prog 60 #[v, .int .i64 k0] w fun e w' => e = .returned (.int .i64 (k0 + zs.length)) ∧ o64 w' base v (mks k0 zs.length) ∧ w.grownBy w' v.ownBlock := by
  rcases h.2 with ⟨rfl, q⟩ | ⟨g, cap, cur, rfl, _, _, c1, c2, _⟩
  · have e : zs = [] := List.eq_nil_of_length_eq_zero q
    subst e
    go_enter Tryz.func60, Tryz.ntmps60
    go_wp2
    refine wp_loop_rounds 1 ?_
    rw [rounds_succ]
    go_wp2
    go_ret
    exact ⟨by simp, World.ownsRow_nil _ _ _ _, grown_refl _ _⟩
  · have HO := hide h
    unfold o64 at HO
    unfold maxLen at c2
    generalize hN : zs.length = n at *
    clear h
    go_enter Tryz.func60, Tryz.ntmps60
    go_wp2
    go_loopw [1, 5] (fun kk i wr => ∃ j : Nat, j ≤ n ∧ kk = .int .i64 (k0 + j) ∧ i = .int .i64 j ∧
        wr.ownsRow base 3 1 (.slice (some ⟨g, 0, none⟩) n cap) n (ints .i64 (mks k0 j ++ zs.drop j)) ∧ w.grownBy wr (some g))
      (fun _ i _ => n - (intOf i).toNat)
    case atStart => exact ⟨0, Nat.zero_le _, by go_num, rfl, by have := HO.out; simpa [mks] using this, grown_refl _ _⟩
    case round =>
      obtain ⟨j, hj, rfl, rfl, hown, hg⟩ := hrel
      by_cases hlt : j < n
      · have hy := owns_cell hown j hlt
        have hf : wr.frozen? ⟨g, j, none⟩ = false := hown.frozenAt j
        have hst := hown.stored j (.int .i64 (k0 + j))
        rw [ints_set, mks_set (by omega)] at hst
        generalize (mks k0 j ++ zs.drop j).getD j 0 = z at hy
        have HS := hide hst
        have HG := hide hg
        clear hst hg hown
        go_wp2
        go_roundw
        case rel => exact ⟨j + 1, by omega, by go_num, by go_num, HS.out.1, grown_trans HG.out HS.out.2⟩
        case measure => simp [intOf]; omega
      · obtain rfl : j = n := by omega
        rw [List.drop_of_length_le (by omega), List.append_nil] at hown
        have HS := hide hown
        have HG := hide hg
        clear hown hg
        go_wp2
        go_ret
        exact ⟨rfl, by unfold o64; rw [mks_len]; exact HS.out, HG.out⟩
set_option maxHeartbeats 400000 in
theorem heldIntN (v : Value) (n : Nat) (k0 : Int) (w : World) (h : Rd .i64 w v (mks k0 n)) (hn : n ≤ 1073741824) (h0 : 0 ≤ k0) (h1 : k0 ≤ 1099511627776) :
    Calls Tryz.prog 62 #[v, .int .i64 k0] w fun e w' => e = .returned (.int .i64 (k0 + n)) ∧ w' = w := by
  rcases h with ⟨ao, cap, rfl, e⟩ | ⟨b, off, cap, rfl, hp, hc⟩
  · have e' : n = 0 := by have := congrArg List.length e; simpa [mks] using this
    subst e'
    clear e
    go_enter Tryz.func62, Tryz.ntmps62
    go_wp2
    refine wp_loop_rounds 1 ?_
    rw [rounds_succ]
    go_wp2
    go_ret
    exact ⟨by simp, rfl⟩
  · have hc' : ∀ i, i < n → w.cell? ⟨b, off + i, none⟩ = some (.int .i64 (k0 + i)) := fun i hi => by
      rw [hc i (by rw [mks_len]; exact hi), mks_getD hi]
    rw [mks_len]
    have HC := hide hc'
    clear hc hc' hp
    go_enter Tryz.func62, Tryz.ntmps62
    go_wp2
    go_loop [1, 5] (fun kk i => ∃ j : Nat, j ≤ n ∧ kk = .int .i64 (k0 + j) ∧ i = .int .i64 j) (fun _ i => n - (intOf i).toNat)
    case atStart => exact ⟨0, Nat.zero_le _, by go_num, rfl⟩
    case round =>
      obtain ⟨j, hj, rfl, rfl⟩ := hrel
      by_cases hlt : j < n
      · have hy := HC.out j hlt
        have hz : ((k0 + j) != (k0 + j)) = false := by simp
        go_wp2
        go_round
        case rel => exact ⟨j + 1, by omega, by go_num, by go_num⟩
        case measure => simp [intOf]; omega
      · obtain rfl : j = n := by omega
        go_wp2
        go_ret
        exact ⟨rfl, rfl⟩
end Go.Proofs.YtbgngikejgihgagGreatDoor

namespace Go.Proofs.YtbgngikejgihgagGreatDoor
open Go Go.RowKit

set_option maxHeartbeats 400000 in
theorem eq64 (xs : List Int) (v u : Value) (w : World) (h1 : Rd .i64 w v xs) (h2 : Rd .i64 w u xs) (hn : xs.length ≤ 1099511627776) :
    Calls Tryz.prog 58 #[v, u] w fun e w' => e = .returned (.bool true) ∧ ∃ n, w' = w.drewN n := by
  by_cases h0 : xs.length = 0
  · have e0 : xs = [] := List.eq_nil_of_length_eq_zero h0
    subst e0
    obtain ⟨ao, cap, rfl⟩ : ∃ ao cap, v = .slice ao 0 cap := by
      rcases h1 with ⟨ao, cap, rfl, _⟩ | ⟨_, _, _, _, hp, _⟩
      · exact ⟨_, _, rfl⟩
      · simp at hp
    obtain ⟨ao', cap', rfl⟩ : ∃ ao cap, u = .slice ao 0 cap := by
      rcases h2 with ⟨ao, cap, rfl, _⟩ | ⟨_, _, _, _, hp, _⟩
      · exact ⟨_, _, rfl⟩
      · simp at hp
    clear h1 h2
    go_enter Tryz.func58, Tryz.ntmps58
    go_wp2
    refine wp_loop_rounds 1 ?_
    rw [rounds_succ]
    go_wp2
    go_ret
    exact ⟨rfl, 0, rfl⟩
  · obtain ⟨b, off, cap, rfl, hc⟩ : ∃ b off cap, v = .slice (some ⟨b, off, none⟩) xs.length cap ∧ ∀ i, i < xs.length → w.cell? ⟨b, off + i, none⟩ = some (.int .i64 (xs.getD i 0)) := by
      rcases h1 with ⟨ao, cap, _, e⟩ | ⟨b, off, cap, e, hp, hc⟩
      · subst e; simp at h0
      · exact ⟨b, off, cap, e, hc⟩
    obtain ⟨b', off', cap', rfl, hc'⟩ : ∃ b off cap, u = .slice (some ⟨b, off, none⟩) xs.length cap ∧ ∀ i, i < xs.length → w.cell? ⟨b, off + i, none⟩ = some (.int .i64 (xs.getD i 0)) := by
      rcases h2 with ⟨ao, cap, _, e⟩ | ⟨b, off, cap, e, hp, hc⟩
      · subst e; simp at h0
      · exact ⟨b, off, cap, e, hc⟩
    clear h1 h2
    generalize hl : xs.length = n at *
    clear hl
    have hne : ((n : Int) != (n : Int)) = false := by simp
    have HC := hide hc
    have HC' := hide hc'
    clear hc hc'
    go_enter Tryz.func58, Tryz.ntmps58
    go_wp2
    go_loopw [5] (fun i wr => ∃ k nq : Nat, k ≤ n ∧ i = .int .i64 k ∧ wr = w.drewN nq) (fun i _ => n - (intOf i).toNat)
    case atStart => exact ⟨0, 0, Nat.zero_le _, rfl, rfl⟩
    case round =>
      obtain ⟨k, nq, hk, rfl, rfl⟩ := hrel
      by_cases hlt : k < n
      · have hx := HC.out k hlt
        have hy := HC'.out k hlt
        generalize xs.getD k 0 = z at hx hy
        have hz : (z != z) = false := by simp
        go_wp2
        go_quiet (fail)
        go_wp2
        go_roundw
        case rel => exact ⟨k + 1, _, by omega, by go_num, rfl⟩
        case measure => simp [intOf]; omega
      · go_wp2
        go_ret
        exact ⟨rfl, _, rfl⟩
end Go.Proofs.YtbgngikejgihgagGreatDoor

namespace Go.Proofs.YtbgngikejgihgagGreatDoor
open Go Go.RowKit
set_option linter.unusedVariables false

/-- A block of two cells. -/
def D2 (w : World) (b : Nat) (x y : Value) (t : TypeId) : Prop := w.heap[b]? = some (.cells #[x, y] t (0, 0))
theorem D2.c {w : World} {b : Nat} {x y : Value} {t : TypeId} (h : D2 w b x y t) : w.cell? ⟨b, 0, none⟩ = some x ∧ w.cell? ⟨b, 1, none⟩ = some y := by
  refine ⟨?_, ?_⟩ <;> rw [cell_of_row w b _ _ _ _ h] <;> rfl
theorem D2.fz {w : World} {b : Nat} {x y : Value} {t : TypeId} (h : D2 w b x y t) (j : Nat) : w.frozen? ⟨b, j, none⟩ = false := frozen_of_row w b j _ _ h
theorem D2.lt {w : World} {b : Nat} {x y : Value} {t : TypeId} (h : D2 w b x y t) : b < w.heap.size := (Array.getElem?_eq_some_iff.1 h).1
theorem D2.below {B : Nat} {w w' : World} {b : Nat} {x y : Value} {t : TypeId} (h : D2 w b x y t) (hb : Below B w w') (hB : b < B) : D2 w' b x y t := (hb.block b hB).trans h
theorem D2.new (w : World) (x y : Value) (t : TypeId) : D2 (w.alloc (.cells #[x, y] t)) w.heap.size x y t := heap_alloc_new w (.cells #[x, y] t)
theorem below_drwL (B : Nat) (w : World) (n : Nat) : Below B w (w.drewN n) := by
  induction n generalizing w with
  | zero => exact Below.refl _ _
  | succ n ih => exact ⟨(ih w.drew).os, (ih w.drew).tape, (ih w.drew).output, (ih w.drew).size, (ih w.drew).block⟩

set_option maxHeartbeats 1000000 in
set_option maxRecDepth 100000 in
theorem eqLBL (gs : List Gr) (st : List Int) (vr vt vr' vt' : Value) (lo hi lo' hi' : Nat) (w : World) (h1 : OwL w lo hi vr vt gs st) (h2 : OwL w lo' hi' vr' vt' gs st) (hh : hi ≤ w.heap.size) (hh' : hi' ≤ w.heap.size) (hn : gs.length ≤ 1048576) (hs : ∀ x ∈ gs, x.cells.length ≤ 1048576) (ht : st.length ≤ 1048576) :
    Calls Tryz.prog 13 #[.agg #[vr, vt], .agg #[vr', vt']] w fun e w' => e = .returned (.bool true) ∧ Below w.heap.size w w' := by
  have A0 := hide (((Below.refl w.heap.size w).alloc (Nat.le_refl _) (.cells #[vr, vt] 29)).alloc (by simp) (.cells #[vr', vt'] 29))
  have hz : w.heap.size ≤ ((w.alloc (.cells #[vr, vt] 29)).alloc (.cells #[vr', vt'] 29)).heap.size := A0.out.size
  have O1 := hide (h1.below A0.out hh)
  have O2 := hide (h2.below A0.out hh')
  obtain ⟨a1, c1, a2, c2, rfl, rfl⟩ := h1.val
  obtain ⟨a3, c3, a4, c4, rfl, rfl⟩ := h2.val
  have K1 := hide (show D2 ((w.alloc (.cells #[.slice a1 gs.length c1, .slice a2 st.length c2] 29)).alloc (.cells #[.slice a3 gs.length c3, .slice a4 st.length c4] 29)) w.heap.size (.slice a1 gs.length c1) (.slice a2 st.length c2) 29 from (Below.heap_alloc _ _ _ (by simp)).trans (heap_alloc_new _ _))
  have K2 := hide (show D2 ((w.alloc (.cells #[.slice a1 gs.length c1, .slice a2 st.length c2] 29)).alloc (.cells #[.slice a3 gs.length c3, .slice a4 st.length c4] 29)) (w.heap.size + 1) (.slice a3 gs.length c3) (.slice a4 st.length c4) 29 from (by have h9 := D2.new (w.alloc (.cells #[.slice a1 gs.length c1, .slice a2 st.length c2] 29)) (.slice a3 gs.length c3) (.slice a4 st.length c4) 29; rw [World.size_alloc] at h9; exact h9))
  have hz2 : w.heap.size + 1 < ((w.alloc (.cells #[.slice a1 gs.length c1, .slice a2 st.length c2] 29)).alloc (.cells #[.slice a3 gs.length c3, .slice a4 st.length c4] 29)).heap.size := by simp
  obtain ⟨vs1, R1⟩ := O1.out.rows
  obtain ⟨vs2, R2⟩ := O2.out.rows
  have E1 := hide (eqGapSN gs vs1 vs2 _ _ lo hi lo' hi' _ R1 R2 (by omega) (by omega) hn hs)
  have E2 := hide (fun w h1 h2 => eq64 st (.slice a2 st.length c2) (.slice a4 st.length c4) w h1 h2 (by omega))
  clear h1 h2 R1 R2 hs
  generalize hN : gs.length = n at *
  generalize hM : st.length = m at *
  clear hN hM
  go_enter Tryz.func13, Tryz.ntmps13
  go_wp2_with fail
  generalize (w.alloc (.cells #[.slice a1 n c1, .slice a2 m c2] 29)).alloc (.cells #[.slice a3 n c3, .slice a4 m c4] 29) = w0 at *
  refine E1.out.mono ?_
  rintro e w1 ⟨rfl, hb1⟩
  have P1 := hide (O1.out.below hb1 (by omega)).starts
  have P2 := hide (O2.out.below hb1 (by omega)).starts
  have d1 := (D2.c (K1.out.below hb1 (by omega))).2
  have d2 := (D2.c (K2.out.below hb1 (by omega))).2
  have B1 := hide (A0.out.trans (hb1.mono hz))
  clear hb1 O1 O2 K1 K2 A0 E1
  go_wp2_with fail
  refine (E2.out _ (Rd.of_owns P1.out) (Rd.of_owns P2.out)).mono ?_
  rintro e w2 ⟨rfl, k, hk⟩
  have B2 := hide (show Below w.heap.size w w2 from (by rw [hk]; exact B1.out.trans (below_drwL _ _ _)))
  clear hk
  go_wp2
  go_ret
  exact ⟨rfl, B2.out⟩

end Go.Proofs.YtbgngikejgihgagGreatDoor

namespace Go.Proofs.YtbgngikejgihgagGreatDoor
open Go Go.RowKit
set_option linter.unusedVariables false

set_option maxHeartbeats 1000000 in
theorem withinI (v lo hi : Int) (w : World) : Calls Tryz.prog 163 #[.int .i64 v, .int .i64 lo, .int .i64 hi] w fun e w' => e = .returned (.bool (decide (lo ≤ v ∧ v ≤ hi))) ∧ w' = w := by
  by_cases h0 : lo ≤ v
  · by_cases h1 : v ≤ hi
    · have hd : decide (lo ≤ v ∧ v ≤ hi) = true := by simp [h0, h1]
      rw [hd]; clear hd
      go_enter Tryz.func163, Tryz.ntmps163
      go_wp2
      go_ret
      exact ⟨rfl, rfl⟩
    · have hd : decide (lo ≤ v ∧ v ≤ hi) = false := by simp [h0, h1]
      rw [hd]; clear hd
      go_enter Tryz.func163, Tryz.ntmps163
      go_wp2
      go_ret
      exact ⟨rfl, rfl⟩
  · have hd : decide (lo ≤ v ∧ v ≤ hi) = false := by simp [h0]
    rw [hd]; clear hd
    go_enter Tryz.func163, Tryz.ntmps163
    go_wp2
    go_ret
    exact ⟨rfl, rfl⟩

/-- An error that is nothing, or a code. -/
def errV (ok : Bool) (c : Int) : Value := if ok then .nilIface else .iface 181 (.int .i64 c)

end Go.Proofs.YtbgngikejgihgagGreatDoor

namespace Go.Proofs.YtbgngikejgihgagGreatDoor
open Go Go.RowKit
set_option linter.unusedVariables false

/-- A gap buffer's three cells. -/
structure GC (w : World) (B o : Nat) (v : Value) (lo hi : Int) : Prop where
  c0 : w.cell? ⟨B, o, none⟩ = some v
  c1 : w.cell? ⟨B, o + 1, none⟩ = some (.int .i64 lo)
  c2 : w.cell? ⟨B, o + 2, none⟩ = some (.int .i64 hi)

theorem GC.lt {w : World} {B o : Nat} {v : Value} {lo hi : Int} (h : GC w B o v lo hi) : B < w.heap.size := World.block_lt_of_cell? w _ h.c0
theorem GC.below {w w' : World} {B o D : Nat} {v : Value} {lo hi : Int} (h : GC w B o v lo hi) (hb : Below D w w') (hD : w.heap.size ≤ D) : GC w' B o v lo hi := by
  have hl := h.lt
  exact ⟨(hb.cell (p := ⟨B, o, none⟩) (by show B < D; omega)).trans h.c0, (hb.cell (p := ⟨B, o + 1, none⟩) (by show B < D; omega)).trans h.c1, (hb.cell (p := ⟨B, o + 2, none⟩) (by show B < D; omega)).trans h.c2⟩

theorem GC.same {w w' : World} {B o : Nat} {v : Value} {lo hi : Int} (h : GC w B o v lo hi) (hh : w'.heap = w.heap) : GC w' B o v lo hi :=
  ⟨(World.cell?_of_block (w := w) (by rw [hh])).trans h.c0, (World.cell?_of_block (w := w) (by rw [hh])).trans h.c1, (World.cell?_of_block (w := w) (by rw [hh])).trans h.c2⟩

theorem GC.drew {w : World} {B o : Nat} {v : Value} {lo hi : Int} (h : GC w B o v lo hi) (n : Nat) : GC (w.drewN n) B o v lo hi :=
  ⟨by simpa using h.c0, by simpa using h.c1, by simpa using h.c2⟩

set_option maxHeartbeats 1000000 in
theorem gapN (B o : Nat) (v : Value) (lo hi : Int) (w : World) (h : GC w B o v lo hi) (h0 : 0 ≤ lo) (h1 : lo ≤ hi) (h2 : hi ≤ 1099511627776) :
    Calls Tryz.prog 195 #[.pointer (some ⟨B, o, none⟩)] w fun e w' => e = .returned (.int .i64 (hi - lo)) ∧ ∃ n, w' = w.drewN n := by
  obtain ⟨c0, c1, c2⟩ := h
  go_enter Tryz.func195, Tryz.ntmps195
  go_wp2
  go_quiet (fail)
  go_wp2
  go_ret
  exact ⟨rfl, _, rfl⟩

set_option maxHeartbeats 1000000 in
theorem lengthG (B o : Nat) (ao : Option Addr) (n cap : Nat) (lo hi : Int) (w : World) (h : GC w B o (.slice ao n cap) lo hi) (h0 : 0 ≤ lo) (h1 : lo ≤ hi) (h2 : hi ≤ n) (hn : n ≤ 1099511627776) :
    Calls Tryz.prog 162 #[.pointer (some ⟨B, o, none⟩)] w fun e w' => e = .returned (.int .i64 (n - (hi - lo))) ∧ ∃ n, w' = w.drewN n := by
  have HK := hide (fun w h => gapN B o (.slice ao n cap) lo hi w h h0 h1 (by omega))
  have H := hide h
  obtain ⟨c0, c1, c2⟩ := h
  go_enter Tryz.func162, Tryz.ntmps162
  go_wp2
  go_quiet ((go_at_call 195; exact Calls.quiet_of (HK.out _ (H.out.drew _))))
  go_wp2
  go_ret
  exact ⟨rfl, _, rfl⟩
end Go.Proofs.YtbgngikejgihgagGreatDoor

namespace Go.Proofs.YtbgngikejgihgagGreatDoor
open Go Go.RowKit
set_option linter.unusedVariables false

theorem Tryz.infoG : (Tryz.prog.info? 21).map (fun i => (i.zero, i.size, i.bytes)) = some (some (.int .i32 0), 1, 4) := by kernel_rfl

/-- A slice value that is nil or leads to cells. -/
def Sl (k : IntKind) (w : World) (v : Value) (zs : List Int) : Prop :=
  (v = .slice none 0 0 ∧ zs = []) ∨
  (∃ b off cap, v = .slice (some ⟨b, off, none⟩) zs.length cap ∧ b < w.heap.size ∧ ∀ i, i < zs.length → w.cell? ⟨b, off + i, none⟩ = some (.int k (zs.getD i 0)))

theorem Sl.of_owns {k : IntKind} {w : World} {base : Nat} {e : TypeId} {v : Value} {n : Nat} {zs : List Int} (h : w.ownsRow base e 1 v n (ints k zs)) : Sl k w v zs := by
  have hl : zs.length = n := by have := h.1; simpa [ints] using this
  rcases h.2 with ⟨hv, hn⟩ | ⟨g, cap, cur, hv, _⟩
  · left; exact ⟨hv, by apply List.eq_nil_of_length_eq_zero; omega⟩
  · subst hv
    right
    exact ⟨g, 0, cap, by rw [hl], (h.lt g rfl).2, fun i hi => by rw [Nat.zero_add]; exact owns_cell h i (by omega)⟩

theorem Sl.below {k : IntKind} {w w' : World} {v : Value} {zs : List Int} (h : Sl k w v zs) (hb : Below w.heap.size w w') : Sl k w' v zs := by
  rcases h with h | ⟨b, off, cap, hv, hB, hc⟩
  · exact .inl h
  · exact .inr ⟨b, off, cap, hv, Nat.lt_of_lt_of_le hB hb.size, fun i hi => (hb.cell (p := ⟨b, off + i, none⟩) hB).trans (hc i hi)⟩

theorem Sl.rd {k : IntKind} {w : World} {v : Value} {zs : List Int} (h : Sl k w v zs) {b off cap : Nat} (hv : v = .slice (some ⟨b, off, none⟩) zs.length cap) : ∀ j u, (ints k zs)[j]? = some u → w.cell? ((⟨b, off, none⟩ : Addr).add j) = some u := by
  rcases h with ⟨h, _⟩ | ⟨b', off', cap', hv', _, hc⟩
  · rw [h] at hv; cases hv
  · rw [hv] at hv'
    simp only [Value.slice.injEq, Option.some.injEq, Addr.mk.injEq, and_true, true_and] at hv'
    obtain ⟨⟨rfl, rfl⟩, _⟩ := hv'
    have := cut_cells (o := 0) (l := zs.length) hc
    simpa using this

end Go.Proofs.YtbgngikejgihgagGreatDoor

namespace Go.Proofs.YtbgngikejgihgagGreatDoor
open Go Go.RowKit
set_option linter.unusedVariables false

set_option maxHeartbeats 1000000 in
set_option maxRecDepth 100000 in
theorem clone32 (xs : List Int) (v : Value) (w : World) (h : Sl .i32 w v xs) (hx : xs.length ≤ 1048576) :
    Calls Tryz.prog 181 #[v] w fun e w' => ∃ v', e = .returned v' ∧ w'.ownsRow w.heap.size 21 1 v' xs.length (ints .i32 xs) ∧ Below w.heap.size w w' := by
  obtain ⟨i0, hi, hz0, hz1, hz2⟩ := info_parts Tryz.infoG
  have HS := hide h
  rcases h with ⟨rfl, rfl⟩ | ⟨b, off, cap, rfl, _, _⟩
  · have hq := fun w : World => Lib.run_eql_slice_nil (P := Tryz.prog) w 36 21 none 0 0 0 0 Tryz.underlying36
    simp only [Option.isNone_none] at hq
    go_enter Tryz.func181, Tryz.ntmps181
    go_wp2
    go_ret
    exact ⟨_, rfl, World.ownsRow_nil _ _ _ _, Below.refl _ _⟩
  · have hown0 : (w.alloc (.cells #[] 21)).ownsRow w.heap.size 21 1 (.slice (some ⟨w.heap.size, 0, none⟩) 0 0) 0 [] := by
      have := World.ownsRow_made (base := w.heap.size) (e := 21) (size := 1) w #[] 0 (by simp) (Nat.zero_le _) rfl
      simpa using this
    have H0 := hide hown0
    have HB1 := hide ((Below.refl w.heap.size w).alloc (Nat.le_refl _) (.cells #[] 21))
    have HC := hide ((HS.out.below HB1.out).rd rfl)
    have hq := fun w : World => Lib.run_eql_slice_nil (P := Tryz.prog) w 36 21 (some ⟨b, off, none⟩) xs.length cap 0 0 Tryz.underlying36
    simp only [Option.isNone_some] at hq
    clear hown0
    go_enter Tryz.func181, Tryz.ntmps181
    go_wp2_with (at_builtin; refine wpList_append_own _ rfl _ _ 36 rfl w.heap.size 21 i0 (.int .i32 0) 1 4 Tryz.underlying36 hi hz0 hz1 hz2 rfl (by decide) _ 0 [] rfl H0.out ⟨b, off, none⟩ xs.length cap (ints .i32 xs) rfl (by rw [ints_length, Nat.mul_one]) HC.out (ints_one _ _) (by unfold maxLen; omega) (by omega) HB1.out.size ?_; intro v3 w3 ho3 hg3 _)
    rw [Nat.zero_add, List.nil_append] at ho3
    have HO3 := hide ho3
    have HB3 := hide (HB1.out.grown hg3 HB1.out.size (fun q hq => by cases hq; exact Nat.le_refl _))
    clear ho3 hg3
    go_wp2
    go_ret
    exact ⟨_, rfl, HO3.out, HB3.out⟩
end Go.Proofs.YtbgngikejgihgagGreatDoor
