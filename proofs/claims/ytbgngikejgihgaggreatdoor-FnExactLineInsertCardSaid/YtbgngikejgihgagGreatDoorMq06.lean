import Derived.Test.YtbgngikejgihgagGreatDoorMq05
import Derived.Test.YtbgngikejgihgagGreatDoorMq03
import Derived.WalkKit
import Derived.WalkLawsBesides
namespace Go.Proofs.YtbgngikejgihgagGreatDoor
open Go Go.RowKit
set_option linter.unusedVariables false

/-- A row's cells. -/
def Cl (w : World) (g : Nat) (zs : List Int) : Prop := ∀ i, i < zs.length → w.cell? ⟨g, i, none⟩ = some (.int .i32 (zs.getD i 0))

theorem Cl.below {w w' : World} {g D : Nat} {zs : List Int} (h : Cl w g zs) (hb : Below D w w') (hg : g < D) : Cl w' g zs := fun i hi => (hb.cell (p := ⟨g, i, none⟩) hg).trans (h i hi)

theorem Cl.cut {w : World} {g p l c : Nat} {zs : List Int} (h : Cl w g zs) (hg : g < w.heap.size) (hp : p + l ≤ zs.length) : Sl .i32 w (.slice (some ⟨g, p, none⟩) l c) ((zs.drop p).take l) := by
  have e : ((zs.drop p).take l).length = l := by simp only [List.length_take, List.length_drop]; omega
  refine .inr ⟨g, p, c, by rw [e], hg, fun i hi => ?_⟩
  rw [e] at hi
  rw [h (p + i) (by omega), gd_take, if_pos hi, gd_drop]

theorem Sl.empty {w : World} {g c : Nat} {xs : List Int} (hg : g < w.heap.size) (hl : xs.length = 0) : Sl .i32 w (.slice (some ⟨g, 0, none⟩) 0 c) xs := by
  obtain rfl := List.eq_nil_of_length_eq_zero hl
  exact .inr ⟨g, 0, c, by simp, hg, fun i hi => by simp at hi⟩

end Go.Proofs.YtbgngikejgihgagGreatDoor

namespace Go.Proofs.YtbgngikejgihgagGreatDoor
open Go Go.RowKit
set_option linter.unusedVariables false

/-- A row from its start on, or nil. -/
def Gs (w : World) (v : Value) (zs : List Int) : Prop :=
  (v = .slice none 0 0 ∧ zs = []) ∨ ∃ g cap, v = .slice (some ⟨g, 0, none⟩) zs.length cap ∧ g < w.heap.size ∧ zs.length ≤ cap ∧ cap ≤ maxLen ∧ Cl w g zs

theorem Gs.below {w w' : World} {D : Nat} {v : Value} {zs : List Int} (h : Gs w v zs) (hb : Below D w w') (hD : w.heap.size ≤ D) : Gs w' v zs := by
  rcases h with h | ⟨g, cap, hv, hg, h1, h2, h3⟩
  · exact .inl h
  · exact .inr ⟨g, cap, hv, Nat.lt_of_lt_of_le hg hb.size, h1, h2, h3.below hb (Nat.lt_of_lt_of_le hg hD)⟩

theorem Gs.of_owns {w : World} {base : Nat} {v : Value} {n : Nat} {zs : List Int} (h : w.ownsRow base 21 1 v n (ints .i32 zs)) : Gs w v zs := by
  have hl : zs.length = n := by have := h.1; simpa [ints] using this
  rcases h.2 with ⟨hv, hn⟩ | ⟨g, cap, cur, hv, hrest⟩
  · left; exact ⟨hv, by apply List.eq_nil_of_length_eq_zero; omega⟩
  · obtain ⟨_, _, hcap, hcm, _⟩ := hrest
    subst hv
    exact .inr ⟨g, cap, by rw [hl], (h.lt g rfl).2, by omega, hcm, fun i hi => owns_cell h i (by omega)⟩

theorem Gs.val {w : World} {v : Value} {zs : List Int} (h : Gs w v zs) : ∃ ao cap, v = .slice ao zs.length cap := by
  rcases h with ⟨h, rfl⟩ | ⟨g, cap, hv, _⟩
  · exact ⟨_, _, h⟩
  · exact ⟨_, _, hv⟩

theorem Gs.sl {w : World} {v : Value} {zs : List Int} (h : Gs w v zs) : Sl .i32 w v zs := by
  rcases h with h | ⟨g, cap, hv, hg, h1, h2, h3⟩
  · exact .inl h
  · exact .inr ⟨g, 0, cap, hv, hg, fun i hi => by rw [Nat.zero_add]; exact h3 i hi⟩

/-- The bounds of a gap buffer. -/
def gbd (n : Nat) (lo hi : Int) : Prop := (n : Int) ≤ 65536 ∧ (0 ≤ hi ∧ hi ≤ n) ∧ (0 ≤ lo ∧ lo ≤ hi) ∧ n - (hi - lo) ≤ 8192
/-- Valid. -/
def gok (zs : List Int) (lo hi : Int) : Prop := gbd zs.length lo hi ∧ ∀ i : Nat, lo ≤ i → (i : Int) < hi → zs.getD i 0 = 0

theorem gok_gv {zs : List Int} {lo hi : Nat} : gok zs lo hi ↔ GV zs lo hi := by
  constructor
  · rintro ⟨⟨h1, ⟨h2, h3⟩, ⟨h4, h5⟩, h6⟩, hz⟩
    exact ⟨by omega, by omega, fun i a b => hz i (by omega) (by omega), by omega, by omega⟩
  · rintro ⟨h1, h2, hz, h3, h4⟩
    exact ⟨⟨by omega, ⟨by omega, by omega⟩, ⟨by omega, by omega⟩, by omega⟩, fun i a b => hz i (by omega) (by omega)⟩

theorem gok_nat {zs : List Int} {lo hi : Int} (h : gok zs lo hi) : ∃ l k : Nat, lo = l ∧ hi = k ∧ GV zs l k := by
  obtain ⟨l, rfl⟩ := Int.eq_ofNat_of_zero_le h.1.2.2.1.1
  obtain ⟨k, rfl⟩ := Int.eq_ofNat_of_zero_le h.1.2.1.1
  exact ⟨l, k, rfl, rfl, gok_gv.1 h⟩

set_option maxHeartbeats 1000000 in
set_option maxRecDepth 100000 in
theorem checkGap_bad (ao : Option Addr) (n cap : Nat) (lo hi : Int) (w : World) (h : ¬ gbd n lo hi) (hn : n ≤ 1048576) :
    Calls Tryz.prog 194 #[.agg #[.slice ao n cap, .int .i64 lo, .int .i64 hi]] w fun e w' => e = .returned (.iface 181 (.int .i64 1)) ∧ Below w.heap.size w w' := by
  unfold gbd at h
  have HB := hide ((Below.refl w.heap.size w).alloc (Nat.le_refl _) (.cells #[.slice ao n cap, .int .i64 lo, .int .i64 hi] 152))
  by_cases h1 : (65536 : Int) < n
  · clear h
    go_enter Tryz.func194, Tryz.ntmps194
    go_wp2
    go_ret
    exact ⟨rfl, HB.out⟩
  by_cases h2 : (0 ≤ hi ∧ hi ≤ n)
  · by_cases h3 : (0 ≤ lo ∧ lo ≤ hi)
    · have h4 : (8192 : Int) < n - (hi - lo) := by omega
      have K2 := hide (fun w => withinI hi 0 n w)
      have K3 := hide (fun w => withinI lo 0 hi w)
      rw [show decide (0 ≤ hi ∧ hi ≤ n) = true by simpa using h2] at K2
      rw [show decide (0 ≤ lo ∧ lo ≤ hi) = true by simpa using h3] at K3
      obtain ⟨a1, a2⟩ := h2
      obtain ⟨a3, a4⟩ := h3
      clear h
      go_enter Tryz.func194, Tryz.ntmps194
      go_wp2_with fail
      refine (K2.out _).mono ?_
      rintro e w1 ⟨rfl, rfl⟩
      go_wp2_with fail
      refine (K3.out _).mono ?_
      rintro e w1 ⟨rfl, rfl⟩
      go_wp2
      go_ret
      exact ⟨rfl, HB.out⟩
    · have K2 := hide (fun w => withinI hi 0 n w)
      have K3 := hide (fun w => withinI lo 0 hi w)
      rw [show decide (0 ≤ hi ∧ hi ≤ n) = true by simpa using h2] at K2
      rw [show decide (0 ≤ lo ∧ lo ≤ hi) = false by simpa using h3] at K3
      clear h h2 h3
      go_enter Tryz.func194, Tryz.ntmps194
      go_wp2_with fail
      refine (K2.out _).mono ?_
      rintro e w1 ⟨rfl, rfl⟩
      go_wp2_with fail
      refine (K3.out _).mono ?_
      rintro e w1 ⟨rfl, rfl⟩
      go_wp2
      go_ret
      exact ⟨rfl, HB.out⟩
  · have K2 := hide (fun w => withinI hi 0 n w)
    rw [show decide (0 ≤ hi ∧ hi ≤ n) = false by simpa using h2] at K2
    clear h h2
    go_enter Tryz.func194, Tryz.ntmps194
    go_wp2_with fail
    refine (K2.out _).mono ?_
    rintro e w1 ⟨rfl, rfl⟩
    go_wp2
    go_ret
    exact ⟨rfl, HB.out⟩

set_option maxHeartbeats 1000000 in
set_option maxRecDepth 100000 in
theorem checkGap_nil (w : World) :
    Calls Tryz.prog 194 #[.agg #[.slice none 0 0, .int .i64 0, .int .i64 0]] w fun e w' => e = .returned .nilIface ∧ Below w.heap.size w w' := by
  have HB := hide ((Below.refl w.heap.size w).alloc (Nat.le_refl _) (.cells #[.slice none 0 0, .int .i64 0, .int .i64 0] 152))
  have K2 := hide (fun w => withinI 0 0 0 w)
  rw [show decide ((0 : Int) ≤ 0 ∧ (0 : Int) ≤ 0) = true by decide] at K2
  go_enter Tryz.func194, Tryz.ntmps194
  go_wp2_with fail
  refine (K2.out _).mono ?_
  rintro e w1 ⟨rfl, rfl⟩
  go_wp2_with fail
  refine (K2.out _).mono ?_
  rintro e w1 ⟨rfl, rfl⟩
  go_wp2
  refine wp_loop_rounds 1 ?_
  rw [rounds_succ]
  go_wp2
  go_ret
  exact ⟨rfl, HB.out⟩

set_option maxHeartbeats 1000000 in
set_option maxRecDepth 100000 in
theorem checkGap_row (g cap n : Nat) (zs : List Int) (lo hi : Nat) (b : Bool) (w : World) (hz : Cl w g zs) (hg : g < w.heap.size) (hN : zs.length = n) (hc : n ≤ cap) (hcm : cap ≤ maxLen) (h1 : lo ≤ hi) (h2 : hi ≤ n) (h3 : n ≤ 65536) (h4 : n - (hi - lo) ≤ 8192) (hb : b = true ↔ ∀ i, lo ≤ i → i < hi → zs.getD i 0 = 0) :
    Calls Tryz.prog 194 #[.agg #[.slice (some ⟨g, 0, none⟩) n cap, .int .i64 lo, .int .i64 hi]] w fun e w' => e = .returned (errV b 1) ∧ Below w.heap.size w w' := by
  have HB := hide ((Below.refl w.heap.size w).alloc (Nat.le_refl _) (.cells #[.slice (some ⟨g, 0, none⟩) n cap, .int .i64 lo, .int .i64 hi] 152))
  have K2 := hide (fun w => withinI hi 0 n w)
  have K3 := hide (fun w => withinI lo 0 hi w)
  rw [show decide ((0 : Int) ≤ hi ∧ (hi : Int) ≤ n) = true by simpa using h2] at K2
  rw [show decide ((0 : Int) ≤ lo ∧ (lo : Int) ≤ hi) = true by simpa using h1] at K3
  have HZ := hide (hz.below HB.out hg)
  have HBB := hide hb
  have HN := hide hN
  have i4 : ¬ (8192 : Int) < (n : Int) - ((hi : Int) - (lo : Int)) := by omega
  clear hz hb hN
  by_cases hco : cap = lo
  · obtain rfl : hi = lo := by omega
    have hbt : b = true := HBB.out.2 (fun i a c => by omega)
    subst hbt
    subst hco
    go_enter Tryz.func194, Tryz.ntmps194
    go_wp2_with fail
    refine (K2.out _).mono ?_
    rintro e w1 ⟨rfl, rfl⟩
    go_wp2_with fail
    refine (K3.out _).mono ?_
    rintro e w1 ⟨rfl, rfl⟩
    go_wp2
    refine wp_loop_rounds 1 ?_
    rw [rounds_succ]
    go_wp2
    go_ret
    exact ⟨rfl, HB.out⟩
  · go_enter Tryz.func194, Tryz.ntmps194
    go_wp2_with fail
    refine (K2.out _).mono ?_
    rintro e w1 ⟨rfl, rfl⟩
    go_wp2_with fail
    refine (K3.out _).mono ?_
    rintro e w1 ⟨rfl, rfl⟩
    go_wp2
    generalize w.alloc (.cells #[.slice (some ⟨g, 0, none⟩) n cap, .int .i64 lo, .int .i64 hi] 152) = w2 at *
    go_loop [45] (fun i => ∃ k : Nat, k ≤ hi - lo ∧ i = .int .i64 k ∧ ∀ j, lo ≤ j → j < lo + k → zs.getD j 0 = 0) (fun i => (hi - lo) - (intOf i).toNat)
    case atStart => exact ⟨0, Nat.zero_le _, rfl, fun j a c => by omega⟩
    case round =>
      obtain ⟨k, hk, rfl, hall⟩ := hrel
      have HA := hide hall
      clear hall
      by_cases hlt : k < hi - lo
      · have hx := HZ.out (lo + k) (by rw [HN.out]; omega)
        obtain ⟨z, hzz⟩ : ∃ z, z = zs.getD (lo + k) 0 := ⟨_, rfl⟩
        rw [← hzz] at hx
        have HZZ := hide hzz
        clear hzz
        by_cases h0 : z = 0
        · subst h0
          go_wp2
          go_round
          case rel => exact ⟨k + 1, by omega, by go_num, fun j a c => by
            by_cases e : j = lo + k
            · rw [e]; exact HZZ.out.symm
            · exact HA.out j a (by omega)⟩
          case measure => simp [intOf]; omega
        · have hne : (z != 0) = true := by simpa using h0
          obtain rfl : b = false := by
            cases hbb : b with
            | false => rfl
            | true => exact absurd (HZZ.out.trans (HBB.out.1 hbb (lo + k) (by omega) (by omega))) h0
          go_wp2
          go_ret
          exact ⟨rfl, HB.out⟩
      · obtain rfl : b = true := HBB.out.2 (fun i a c => HA.out i a (by omega))
        go_wp2
        go_ret
        exact ⟨rfl, HB.out⟩

open Classical in
/-- What checkGap answers. -/
theorem checkGapN (zs : List Int) (v : Value) (lo hi : Int) (w : World) (h : Gs w v zs) (hn : zs.length ≤ 1048576) :
    Calls Tryz.prog 194 #[.agg #[v, .int .i64 lo, .int .i64 hi]] w fun e w' => e = .returned (errV (decide (gok zs lo hi)) 1) ∧ Below w.heap.size w w' := by
  by_cases hb : gbd zs.length lo hi
  · obtain ⟨l, rfl⟩ := Int.eq_ofNat_of_zero_le hb.2.2.1.1
    obtain ⟨k, rfl⟩ := Int.eq_ofNat_of_zero_le hb.2.1.1
    have b1 := hb.1
    have b2 := hb.2.1.2
    have b3 := hb.2.2.1.2
    have b4 := hb.2.2.2
    rcases h with ⟨rfl, rfl⟩ | ⟨g, cap, rfl, hg, h1, h2, h3⟩
    · obtain rfl : k = 0 := by simpa using b2
      obtain rfl : l = 0 := by omega
      have hd : decide (gok [] ((0 : Nat) : Int) ((0 : Nat) : Int)) = true := by
        simp only [decide_eq_true_eq]
        exact ⟨hb, fun i a c => by omega⟩
      rw [hd]
      exact checkGap_nil w
    · refine checkGap_row g cap zs.length zs l k _ w h3 hg rfl h1 h2 (by omega) (by omega) (by omega) (by omega) ?_
      simp only [decide_eq_true_eq]
      constructor
      · intro hh i a c; exact hh.2 i (by omega) (by omega)
      · intro hh; exact ⟨hb, fun i a c => hh i (by omega) (by omega)⟩
  · obtain ⟨ao, cap, rfl⟩ := h.val
    have hd : decide (gok zs lo hi) = false := by
      simp only [decide_eq_false_iff_not]
      exact fun hh => hb hh.1
    rw [hd]
    exact checkGap_bad ao zs.length cap lo hi w hb hn
end Go.Proofs.YtbgngikejgihgagGreatDoor

namespace Go.Proofs.YtbgngikejgihgagGreatDoor
open Go Go.RowKit
set_option linter.unusedVariables false

/-- A block of three cells. -/
def T3 (w : World) (b : Nat) (x y z : Value) (t : TypeId) : Prop := w.heap[b]? = some (.cells #[x, y, z] t (0, 0))
theorem T3.c {w : World} {b : Nat} {x y z : Value} {t : TypeId} (h : T3 w b x y z t) : w.cell? ⟨b, 0, none⟩ = some x ∧ w.cell? ⟨b, 1, none⟩ = some y ∧ w.cell? ⟨b, 2, none⟩ = some z := by
  refine ⟨?_, ?_, ?_⟩ <;> rw [cell_of_row w b _ _ _ _ h] <;> rfl
theorem T3.fz {w : World} {b : Nat} {x y z : Value} {t : TypeId} (h : T3 w b x y z t) (j : Nat) : w.frozen? ⟨b, j, none⟩ = false := frozen_of_row w b j _ _ h
theorem T3.lt {w : World} {b : Nat} {x y z : Value} {t : TypeId} (h : T3 w b x y z t) : b < w.heap.size := lt_of_block h
theorem T3.below {B : Nat} {w w' : World} {b : Nat} {x y z : Value} {t : TypeId} (h : T3 w b x y z t) (hb : Below B w w') (hB : b < B) : T3 w' b x y z t := (hb.block b hB).trans h
theorem T3.new (w : World) (x y z : Value) (t : TypeId) : T3 (w.alloc (.cells #[x, y, z] t)) w.heap.size x y z t := heap_alloc_new w (.cells #[x, y, z] t)
theorem T3.gc {w : World} {b : Nat} {v : Value} {lo hi : Int} {t : TypeId} (h : T3 w b v (.int .i64 lo) (.int .i64 hi) t) : GC w b 0 v lo hi := ⟨h.c.1, h.c.2.1, h.c.2.2⟩

end Go.Proofs.YtbgngikejgihgagGreatDoor
