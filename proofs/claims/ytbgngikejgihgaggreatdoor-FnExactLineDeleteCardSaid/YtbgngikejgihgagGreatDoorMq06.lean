import Derived.Test.YtbgngikejgihgagGreatDoorProg
import Derived.Test.YtbgngikejgihgagGreatDoorMq01
import Derived.Test.YtbgngikejgihgagGreatDoorMq05
import Derived.WalkKit
import Derived.WalkLawsBesides
import Derived.Deep.QuietTactic
import Derived.BigQuiet
import Derived.Laws.AppendOwnNone
import Derived.Lib.SliceRun
import Derived.Test.YtbgngikejgihgagGreatDoorMq03
namespace Go.Proofs.YtbgngikejgihgagGreatDoor
open Go Go.RowKit
set_option linter.unusedVariables false

/-- A gap buffer's three cells. -/
structure GC (w : World) (B o : Nat) (v : Value) (lo hi : Int) : Prop where
  c0 : w.cell? ⟨B, o, none⟩ = some v
  c1 : w.cell? ⟨B, o + 1, none⟩ = some (.int .i64 lo)
  c2 : w.cell? ⟨B, o + 2, none⟩ = some (.int .i64 hi)

theorem GC.lt {w : World} {B o : Nat} {v : Value} {lo hi : Int} (h : GC w B o v lo hi) : B < w.heap.size := World.block_lt_of_cell? w _ h.c0
theorem GC.below {w w' : World} {B o D : Nat} {v : Value} {lo hi : Int} (h : GC w B o v lo hi) (hb : Below D w w') (hD : w.heap.size ≤ D) : GC w' B o v lo hi := by
  have hl := h.lt
  exact ⟨(hb.cell (p := ⟨B, o, none⟩) (by show B < D; omega)).trans h.c0, (hb.cell (p := ⟨B, o + 1, none⟩) (by show B < D; omega)).trans h.c1, (hb.cell (p := ⟨B, o + 2, none⟩) (by show B < D; omega)).trans h.c2⟩

theorem GC.same {w w' : World} {B o : Nat} {v : Value} {lo hi : Int} (h : GC w B o v lo hi) (hh : w'.heap = w.heap) : GC w' B o v lo hi :=
  ⟨(World.cell?_of_block (w := w) (by rw [hh])).trans h.c0, (World.cell?_of_block (w := w) (by rw [hh])).trans h.c1, (World.cell?_of_block (w := w) (by rw [hh])).trans h.c2⟩

theorem GC.drew {w : World} {B o : Nat} {v : Value} {lo hi : Int} (h : GC w B o v lo hi) (n : Nat) : GC (w.drewN n) B o v lo hi :=
  ⟨by simpa using h.c0, by simpa using h.c1, by simpa using h.c2⟩

set_option maxHeartbeats 1000000 in
theorem gapN (B o : Nat) (v : Value) (lo hi : Int) (w : World) (h : GC w B o v lo hi) (h0 : 0 ≤ lo) (h1 : lo ≤ hi) (h2 : hi ≤ 1099511627776) :
    Calls Tryz.prog 195 #[.pointer (some ⟨B, o, none⟩)] w fun e w' => e = .returned (.int .i64 (hi - lo)) ∧ ∃ n, w' = w.drewN n := by
  obtain ⟨c0, c1, c2⟩ := h
  go_enter Tryz.func195, Tryz.ntmps195
  go_wp2
  go_quiet (fail)
  go_wp2
  go_ret
  exact ⟨rfl, _, rfl⟩

set_option maxHeartbeats 1000000 in
theorem lengthG (B o : Nat) (ao : Option Addr) (n cap : Nat) (lo hi : Int) (w : World) (h : GC w B o (.slice ao n cap) lo hi) (h0 : 0 ≤ lo) (h1 : lo ≤ hi) (h2 : hi ≤ n) (hn : n ≤ 1099511627776) :
    Calls Tryz.prog 162 #[.pointer (some ⟨B, o, none⟩)] w fun e w' => e = .returned (.int .i64 (n - (hi - lo))) ∧ ∃ n, w' = w.drewN n := by
  have HK := hide (fun w h => gapN B o (.slice ao n cap) lo hi w h h0 h1 (by omega))
  have H := hide h
  obtain ⟨c0, c1, c2⟩ := h
  go_enter Tryz.func162, Tryz.ntmps162
  go_wp2
  go_quiet ((go_at_call 195; exact Calls.quiet_of (HK.out _ (H.out.drew _))))
  go_wp2
  go_ret
  exact ⟨rfl, _, rfl⟩
end Go.Proofs.YtbgngikejgihgagGreatDoor

namespace Go.Proofs.YtbgngikejgihgagGreatDoor
open Go Go.RowKit
set_option linter.unusedVariables false

theorem Tryz.infoG : (Tryz.prog.info? 21).map (fun i => (i.zero, i.size, i.bytes)) = some (some (.int .i32 0), 1, 4) := by kernel_rfl

/-- A slice value that is nil or leads to cells. -/
def Sl (k : IntKind) (w : World) (v : Value) (zs : List Int) : Prop :=
  (v = .slice none 0 0 ∧ zs = []) ∨
  (∃ b off cap, v = .slice (some ⟨b, off, none⟩) zs.length cap ∧ b < w.heap.size ∧ ∀ i, i < zs.length → w.cell? ⟨b, off + i, none⟩ = some (.int k (zs.getD i 0)))

theorem Sl.of_owns {k : IntKind} {w : World} {base : Nat} {e : TypeId} {v : Value} {n : Nat} {zs : List Int} (h : w.ownsRow base e 1 v n (ints k zs)) : Sl k w v zs := by
  have hl : zs.length = n := by have := h.1; simpa [ints] using this
  rcases h.2 with ⟨hv, hn⟩ | ⟨g, cap, cur, hv, _⟩
  · left; exact ⟨hv, by apply List.eq_nil_of_length_eq_zero; omega⟩
  · subst hv
    right
    exact ⟨g, 0, cap, by rw [hl], (h.lt g rfl).2, fun i hi => by rw [Nat.zero_add]; exact owns_cell h i (by omega)⟩

theorem Sl.below {k : IntKind} {w w' : World} {v : Value} {zs : List Int} (h : Sl k w v zs) (hb : Below w.heap.size w w') : Sl k w' v zs := by
  rcases h with h | ⟨b, off, cap, hv, hB, hc⟩
  · exact .inl h
  · exact .inr ⟨b, off, cap, hv, Nat.lt_of_lt_of_le hB hb.size, fun i hi => (hb.cell (p := ⟨b, off + i, none⟩) hB).trans (hc i hi)⟩

theorem Sl.rd {k : IntKind} {w : World} {v : Value} {zs : List Int} (h : Sl k w v zs) {b off cap : Nat} (hv : v = .slice (some ⟨b, off, none⟩) zs.length cap) : ∀ j u, (ints k zs)[j]? = some u → w.cell? ((⟨b, off, none⟩ : Addr).add j) = some u := by
  rcases h with ⟨h, _⟩ | ⟨b', off', cap', hv', _, hc⟩
  · rw [h] at hv; cases hv
  · rw [hv] at hv'
    simp only [Value.slice.injEq, Option.some.injEq, Addr.mk.injEq, and_true, true_and] at hv'
    obtain ⟨⟨rfl, rfl⟩, _⟩ := hv'
    have := cut_cells (o := 0) (l := zs.length) hc
    simpa using this

end Go.Proofs.YtbgngikejgihgagGreatDoor

namespace Go.Proofs.YtbgngikejgihgagGreatDoor
open Go Go.RowKit
set_option linter.unusedVariables false

set_option maxHeartbeats 1000000 in
set_option maxRecDepth 100000 in
theorem clone32 (xs : List Int) (v : Value) (w : World) (h : Sl .i32 w v xs) (hx : xs.length ≤ 1048576) :
    Calls Tryz.prog 181 #[v] w fun e w' => ∃ v', e = .returned v' ∧ w'.ownsRow w.heap.size 21 1 v' xs.length (ints .i32 xs) ∧ Below w.heap.size w w' := by
  obtain ⟨i0, hi, hz0, hz1, hz2⟩ := info_parts Tryz.infoG
  have HS := hide h
  rcases h with ⟨rfl, rfl⟩ | ⟨b, off, cap, rfl, _, _⟩
  · have hq := fun w : World => Lib.run_eql_slice_nil (P := Tryz.prog) w 36 21 none 0 0 0 0 Tryz.underlying36
    simp only [Option.isNone_none] at hq
    go_enter Tryz.func181, Tryz.ntmps181
    go_wp2
    go_ret
    exact ⟨_, rfl, World.ownsRow_nil _ _ _ _, Below.refl _ _⟩
  · have hown0 : (w.alloc (.cells #[] 21)).ownsRow w.heap.size 21 1 (.slice (some ⟨w.heap.size, 0, none⟩) 0 0) 0 [] := by
      have := World.ownsRow_made (base := w.heap.size) (e := 21) (size := 1) w #[] 0 (by simp) (Nat.zero_le _) rfl
      simpa using this
    have H0 := hide hown0
    have HB1 := hide ((Below.refl w.heap.size w).alloc (Nat.le_refl _) (.cells #[] 21))
    have HC := hide ((HS.out.below HB1.out).rd rfl)
    have hq := fun w : World => Lib.run_eql_slice_nil (P := Tryz.prog) w 36 21 (some ⟨b, off, none⟩) xs.length cap 0 0 Tryz.underlying36
    simp only [Option.isNone_some] at hq
    clear hown0
    go_enter Tryz.func181, Tryz.ntmps181
    go_wp2_with (at_builtin; refine wpList_append_own _ rfl _ _ 36 rfl w.heap.size 21 i0 (.int .i32 0) 1 4 Tryz.underlying36 hi hz0 hz1 hz2 rfl (by decide) _ 0 [] rfl H0.out ⟨b, off, none⟩ xs.length cap (ints .i32 xs) rfl (by rw [ints_length, Nat.mul_one]) HC.out (ints_one _ _) (by unfold maxLen; omega) (by omega) HB1.out.size ?_; intro v3 w3 ho3 hg3 _)
    rw [Nat.zero_add, List.nil_append] at ho3
    have HO3 := hide ho3
    have HB3 := hide (HB1.out.grown hg3 HB1.out.size (fun q hq => by cases hq; exact Nat.le_refl _))
    clear ho3 hg3
    go_wp2
    go_ret
    exact ⟨_, rfl, HO3.out, HB3.out⟩
end Go.Proofs.YtbgngikejgihgagGreatDoor

namespace Go.Proofs.YtbgngikejgihgagGreatDoor
open Go Go.RowKit
set_option linter.unusedVariables false

/-- A row's cells. -/
def Cl (w : World) (g : Nat) (zs : List Int) : Prop := ∀ i, i < zs.length → w.cell? ⟨g, i, none⟩ = some (.int .i32 (zs.getD i 0))

theorem Cl.below {w w' : World} {g D : Nat} {zs : List Int} (h : Cl w g zs) (hb : Below D w w') (hg : g < D) : Cl w' g zs := fun i hi => (hb.cell (p := ⟨g, i, none⟩) hg).trans (h i hi)

theorem Cl.cut {w : World} {g p l c : Nat} {zs : List Int} (h : Cl w g zs) (hg : g < w.heap.size) (hp : p + l ≤ zs.length) : Sl .i32 w (.slice (some ⟨g, p, none⟩) l c) ((zs.drop p).take l) := by
  have e : ((zs.drop p).take l).length = l := by simp only [List.length_take, List.length_drop]; omega
  refine .inr ⟨g, p, c, by rw [e], hg, fun i hi => ?_⟩
  rw [e] at hi
  rw [h (p + i) (by omega), gd_take, if_pos hi, gd_drop]

theorem Sl.empty {w : World} {g c : Nat} {xs : List Int} (hg : g < w.heap.size) (hl : xs.length = 0) : Sl .i32 w (.slice (some ⟨g, 0, none⟩) 0 c) xs := by
  obtain rfl := List.eq_nil_of_length_eq_zero hl
  exact .inr ⟨g, 0, c, by simp, hg, fun i hi => by simp at hi⟩

end Go.Proofs.YtbgngikejgihgagGreatDoor

namespace Go.Proofs.YtbgngikejgihgagGreatDoor
open Go Go.RowKit
set_option linter.unusedVariables false

/-- A row from its start on, or nil. -/
def Gs (w : World) (v : Value) (zs : List Int) : Prop :=
  (v = .slice none 0 0 ∧ zs = []) ∨ ∃ g cap, v = .slice (some ⟨g, 0, none⟩) zs.length cap ∧ g < w.heap.size ∧ zs.length ≤ cap ∧ cap ≤ maxLen ∧ Cl w g zs

theorem Gs.below {w w' : World} {D : Nat} {v : Value} {zs : List Int} (h : Gs w v zs) (hb : Below D w w') (hD : w.heap.size ≤ D) : Gs w' v zs := by
  rcases h with h | ⟨g, cap, hv, hg, h1, h2, h3⟩
  · exact .inl h
  · exact .inr ⟨g, cap, hv, Nat.lt_of_lt_of_le hg hb.size, h1, h2, h3.below hb (Nat.lt_of_lt_of_le hg hD)⟩

theorem Gs.of_owns {w : World} {base : Nat} {v : Value} {n : Nat} {zs : List Int} (h : w.ownsRow base 21 1 v n (ints .i32 zs)) : Gs w v zs := by
  have hl : zs.length = n := by have := h.1; simpa [ints] using this
  rcases h.2 with ⟨hv, hn⟩ | ⟨g, cap, cur, hv, hrest⟩
  · left; exact ⟨hv, by apply List.eq_nil_of_length_eq_zero; omega⟩
  · obtain ⟨_, _, hcap, hcm, _⟩ := hrest
    subst hv
    exact .inr ⟨g, cap, by rw [hl], (h.lt g rfl).2, by omega, hcm, fun i hi => owns_cell h i (by omega)⟩

theorem Gs.val {w : World} {v : Value} {zs : List Int} (h : Gs w v zs) : ∃ ao cap, v = .slice ao zs.length cap := by
  rcases h with ⟨h, rfl⟩ | ⟨g, cap, hv, _⟩
  · exact ⟨_, _, h⟩
  · exact ⟨_, _, hv⟩

theorem Gs.sl {w : World} {v : Value} {zs : List Int} (h : Gs w v zs) : Sl .i32 w v zs := by
  rcases h with h | ⟨g, cap, hv, hg, h1, h2, h3⟩
  · exact .inl h
  · exact .inr ⟨g, 0, cap, hv, hg, fun i hi => by rw [Nat.zero_add]; exact h3 i hi⟩

/-- The bounds of a gap buffer. -/
def gbd (n : Nat) (lo hi : Int) : Prop := (n : Int) ≤ 65536 ∧ (0 ≤ hi ∧ hi ≤ n) ∧ (0 ≤ lo ∧ lo ≤ hi) ∧ n - (hi - lo) ≤ 8192
/-- Valid. -/
def gok (zs : List Int) (lo hi : Int) : Prop := gbd zs.length lo hi ∧ ∀ i : Nat, lo ≤ i → (i : Int) < hi → zs.getD i 0 = 0

theorem gok_gv {zs : List Int} {lo hi : Nat} : gok zs lo hi ↔ GV zs lo hi := by
  constructor
  · rintro ⟨⟨h1, ⟨h2, h3⟩, ⟨h4, h5⟩, h6⟩, hz⟩
    exact ⟨by omega, by omega, fun i a b => hz i (by omega) (by omega), by omega, by omega⟩
  · rintro ⟨h1, h2, hz, h3, h4⟩
    exact ⟨⟨by omega, ⟨by omega, by omega⟩, ⟨by omega, by omega⟩, by omega⟩, fun i a b => hz i (by omega) (by omega)⟩

theorem gok_nat {zs : List Int} {lo hi : Int} (h : gok zs lo hi) : ∃ l k : Nat, lo = l ∧ hi = k ∧ GV zs l k := by
  obtain ⟨l, rfl⟩ := Int.eq_ofNat_of_zero_le h.1.2.2.1.1
  obtain ⟨k, rfl⟩ := Int.eq_ofNat_of_zero_le h.1.2.1.1
  exact ⟨l, k, rfl, rfl, gok_gv.1 h⟩

set_option maxHeartbeats 1000000 in
set_option maxRecDepth 100000 in
theorem checkGap_bad (ao : Option Addr) (n cap : Nat) (lo hi : Int) (w : World) (h : ¬ gbd n lo hi) (hn : n ≤ 1048576) :
    Calls Tryz.prog 194 #[.agg #[.slice ao n cap, .int .i64 lo, .int .i64 hi]] w fun e w' => e = .returned (.iface 181 (.int .i64 1)) ∧ Below w.heap.size w w' := by
  unfold gbd at h
  have HB := hide ((Below.refl w.heap.size w).alloc (Nat.le_refl _) (.cells #[.slice ao n cap, .int .i64 lo, .int .i64 hi] 152))
  by_cases h1 : (65536 : Int) < n
  · clear h
    go_enter Tryz.func194, Tryz.ntmps194
    go_wp2
    go_ret
    exact ⟨rfl, HB.out⟩
  by_cases h2 : (0 ≤ hi ∧ hi ≤ n)
  · by_cases h3 : (0 ≤ lo ∧ lo ≤ hi)
    · have h4 : (8192 : Int) < n - (hi - lo) := by omega
      have K2 := hide (fun w => withinI hi 0 n w)
      have K3 := hide (fun w => withinI lo 0 hi w)
      rw [show decide (0 ≤ hi ∧ hi ≤ n) = true by simpa using h2] at K2
      rw [show decide (0 ≤ lo ∧ lo ≤ hi) = true by simpa using h3] at K3
      obtain ⟨a1, a2⟩ := h2
      obtain ⟨a3, a4⟩ := h3
      clear h
      go_enter Tryz.func194, Tryz.ntmps194
      go_wp2_with fail
      refine (K2.out _).mono ?_
      rintro e w1 ⟨rfl, rfl⟩
      go_wp2_with fail
      refine (K3.out _).mono ?_
      rintro e w1 ⟨rfl, rfl⟩
      go_wp2
      go_ret
      exact ⟨rfl, HB.out⟩
    · have K2 := hide (fun w => withinI hi 0 n w)
      have K3 := hide (fun w => withinI lo 0 hi w)
      rw [show decide (0 ≤ hi ∧ hi ≤ n) = true by simpa using h2] at K2
      rw [show decide (0 ≤ lo ∧ lo ≤ hi) = false by simpa using h3] at K3
      clear h h2 h3
      go_enter Tryz.func194, Tryz.ntmps194
      go_wp2_with fail
      refine (K2.out _).mono ?_
      rintro e w1 ⟨rfl, rfl⟩
      go_wp2_with fail
      refine (K3.out _).mono ?_
      rintro e w1 ⟨rfl, rfl⟩
      go_wp2
      go_ret
      exact ⟨rfl, HB.out⟩
  · have K2 := hide (fun w => withinI hi 0 n w)
    rw [show decide (0 ≤ hi ∧ hi ≤ n) = false by simpa using h2] at K2
    clear h h2
    go_enter Tryz.func194, Tryz.ntmps194
    go_wp2_with fail
    refine (K2.out _).mono ?_
    rintro e w1 ⟨rfl, rfl⟩
    go_wp2
    go_ret
    exact ⟨rfl, HB.out⟩

set_option maxHeartbeats 1000000 in
set_option maxRecDepth 100000 in
theorem checkGap_nil (w : World) :
    Calls Tryz.prog 194 #[.agg #[.slice none 0 0, .int .i64 0, .int .i64 0]] w fun e w' => e = .returned .nilIface ∧ Below w.heap.size w w' := by
  have HB := hide ((Below.refl w.heap.size w).alloc (Nat.le_refl _) (.cells #[.slice none 0 0, .int .i64 0, .int .i64 0] 152))
  have K2 := hide (fun w => withinI 0 0 0 w)
  rw [show decide ((0 : Int) ≤ 0 ∧ (0 : Int) ≤ 0) = true by decide] at K2
  go_enter Tryz.func194, Tryz.ntmps194
  go_wp2_with fail
  refine (K2.out _).mono ?_
  rintro e w1 ⟨rfl, rfl⟩
  go_wp2_with fail
  refine (K2.out _).mono ?_
  rintro e w1 ⟨rfl, rfl⟩
  go_wp2
  refine wp_loop_rounds 1 ?_
  rw [rounds_succ]
  go_wp2
  go_ret
  exact ⟨rfl, HB.out⟩

set_option maxHeartbeats 1000000 in
set_option maxRecDepth 100000 in
theorem checkGap_row (g cap n : Nat) (zs : List Int) (lo hi : Nat) (b : Bool) (w : World) (hz : Cl w g zs) (hg : g < w.heap.size) (hN : zs.length = n) (hc : n ≤ cap) (hcm : cap ≤ maxLen) (h1 : lo ≤ hi) (h2 : hi ≤ n) (h3 : n ≤ 65536) (h4 : n - (hi - lo) ≤ 8192) (hb : b = true ↔ ∀ i, lo ≤ i → i < hi → zs.getD i 0 = 0) :
    Calls Tryz.prog 194 #[.agg #[.slice (some ⟨g, 0, none⟩) n cap, .int .i64 lo, .int .i64 hi]] w fun e w' => e = .returned (errV b 1) ∧ Below w.heap.size w w' := by
  have HB := hide ((Below.refl w.heap.size w).alloc (Nat.le_refl _) (.cells #[.slice (some ⟨g, 0, none⟩) n cap, .int .i64 lo, .int .i64 hi] 152))
  have K2 := hide (fun w => withinI hi 0 n w)
  have K3 := hide (fun w => withinI lo 0 hi w)
  rw [show decide ((0 : Int) ≤ hi ∧ (hi : Int) ≤ n) = true by simpa using h2] at K2
  rw [show decide ((0 : Int) ≤ lo ∧ (lo : Int) ≤ hi) = true by simpa using h1] at K3
  have HZ := hide (hz.below HB.out hg)
  have HBB := hide hb
  have HN := hide hN
  have i4 : ¬ (8192 : Int) < (n : Int) - ((hi : Int) - (lo : Int)) := by omega
  clear hz hb hN
  by_cases hco : cap = lo
  · obtain rfl : hi = lo := by omega
    have hbt : b = true := HBB.out.2 (fun i a c => by omega)
    subst hbt
    subst hco
    go_enter Tryz.func194, Tryz.ntmps194
    go_wp2_with fail
    refine (K2.out _).mono ?_
    rintro e w1 ⟨rfl, rfl⟩
    go_wp2_with fail
    refine (K3.out _).mono ?_
    rintro e w1 ⟨rfl, rfl⟩
    go_wp2
    refine wp_loop_rounds 1 ?_
    rw [rounds_succ]
    go_wp2
    go_ret
    exact ⟨rfl, HB.out⟩
  · go_enter Tryz.func194, Tryz.ntmps194
    go_wp2_with fail
    refine (K2.out _).mono ?_
    rintro e w1 ⟨rfl, rfl⟩
    go_wp2_with fail
    refine (K3.out _).mono ?_
    rintro e w1 ⟨rfl, rfl⟩
    go_wp2
    generalize w.alloc (.cells #[.slice (some ⟨g, 0, none⟩) n cap, .int .i64 lo, .int .i64 hi] 152) = w2 at *
    go_loop [45] (fun i => ∃ k : Nat, k ≤ hi - lo ∧ i = .int .i64 k ∧ ∀ j, lo ≤ j → j < lo + k → zs.getD j 0 = 0) (fun i => (hi - lo) - (intOf i).toNat)
    case atStart => exact ⟨0, Nat.zero_le _, rfl, fun j a c => by omega⟩
    case round =>
      obtain ⟨k, hk, rfl, hall⟩ := hrel
      have HA := hide hall
      clear hall
      by_cases hlt : k < hi - lo
      · have hx := HZ.out (lo + k) (by rw [HN.out]; omega)
        obtain ⟨z, hzz⟩ : ∃ z, z = zs.getD (lo + k) 0 := ⟨_, rfl⟩
        rw [← hzz] at hx
        have HZZ := hide hzz
        clear hzz
        by_cases h0 : z = 0
        · subst h0
          go_wp2
          go_round
          case rel => exact ⟨k + 1, by omega, by go_num, fun j a c => by
            by_cases e : j = lo + k
            · rw [e]; exact HZZ.out.symm
            · exact HA.out j a (by omega)⟩
          case measure => simp [intOf]; omega
        · have hne : (z != 0) = true := by simpa using h0
          obtain rfl : b = false := by
            cases hbb : b with
            | false => rfl
            | true => exact absurd (HZZ.out.trans (HBB.out.1 hbb (lo + k) (by omega) (by omega))) h0
          go_wp2
          go_ret
          exact ⟨rfl, HB.out⟩
      · obtain rfl : b = true := HBB.out.2 (fun i a c => HA.out i a (by omega))
        go_wp2
        go_ret
        exact ⟨rfl, HB.out⟩

open Classical in
/-- What checkGap answers. -/
theorem checkGapN (zs : List Int) (v : Value) (lo hi : Int) (w : World) (h : Gs w v zs) (hn : zs.length ≤ 1048576) :
    Calls Tryz.prog 194 #[.agg #[v, .int .i64 lo, .int .i64 hi]] w fun e w' => e = .returned (errV (decide (gok zs lo hi)) 1) ∧ Below w.heap.size w w' := by
  by_cases hb : gbd zs.length lo hi
  · obtain ⟨l, rfl⟩ := Int.eq_ofNat_of_zero_le hb.2.2.1.1
    obtain ⟨k, rfl⟩ := Int.eq_ofNat_of_zero_le hb.2.1.1
    have b1 := hb.1
    have b2 := hb.2.1.2
    have b3 := hb.2.2.1.2
    have b4 := hb.2.2.2
    rcases h with ⟨rfl, rfl⟩ | ⟨g, cap, rfl, hg, h1, h2, h3⟩
    · obtain rfl : k = 0 := by simpa using b2
      obtain rfl : l = 0 := by omega
      have hd : decide (gok [] ((0 : Nat) : Int) ((0 : Nat) : Int)) = true := by
        simp only [decide_eq_true_eq]
        exact ⟨hb, fun i a c => by omega⟩
      rw [hd]
      exact checkGap_nil w
    · refine checkGap_row g cap zs.length zs l k _ w h3 hg rfl h1 h2 (by omega) (by omega) (by omega) (by omega) ?_
      simp only [decide_eq_true_eq]
      constructor
      · intro hh i a c; exact hh.2 i (by omega) (by omega)
      · intro hh; exact ⟨hb, fun i a c => hh i (by omega) (by omega)⟩
  · obtain ⟨ao, cap, rfl⟩ := h.val
    have hd : decide (gok zs lo hi) = false := by
      simp only [decide_eq_false_iff_not]
      exact fun hh => hb hh.1
    rw [hd]
    exact checkGap_bad ao zs.length cap lo hi w hb hn
end Go.Proofs.YtbgngikejgihgagGreatDoor

namespace Go.Proofs.YtbgngikejgihgagGreatDoor
open Go Go.RowKit
set_option linter.unusedVariables false

/-- A block of three cells. -/
def T3 (w : World) (b : Nat) (x y z : Value) (t : TypeId) : Prop := w.heap[b]? = some (.cells #[x, y, z] t (0, 0))
theorem T3.c {w : World} {b : Nat} {x y z : Value} {t : TypeId} (h : T3 w b x y z t) : w.cell? ⟨b, 0, none⟩ = some x ∧ w.cell? ⟨b, 1, none⟩ = some y ∧ w.cell? ⟨b, 2, none⟩ = some z := by
  refine ⟨?_, ?_, ?_⟩ <;> rw [cell_of_row w b _ _ _ _ h] <;> rfl
theorem T3.fz {w : World} {b : Nat} {x y z : Value} {t : TypeId} (h : T3 w b x y z t) (j : Nat) : w.frozen? ⟨b, j, none⟩ = false := frozen_of_row w b j _ _ h
theorem T3.lt {w : World} {b : Nat} {x y z : Value} {t : TypeId} (h : T3 w b x y z t) : b < w.heap.size := lt_of_block h
theorem T3.below {B : Nat} {w w' : World} {b : Nat} {x y z : Value} {t : TypeId} (h : T3 w b x y z t) (hb : Below B w w') (hB : b < B) : T3 w' b x y z t := (hb.block b hB).trans h
theorem T3.new (w : World) (x y z : Value) (t : TypeId) : T3 (w.alloc (.cells #[x, y, z] t)) w.heap.size x y z t := heap_alloc_new w (.cells #[x, y, z] t)
theorem T3.gc {w : World} {b : Nat} {v : Value} {lo hi : Int} {t : TypeId} (h : T3 w b v (.int .i64 lo) (.int .i64 hi) t) : GC w b 0 v lo hi := ⟨h.c.1, h.c.2.1, h.c.2.2⟩

end Go.Proofs.YtbgngikejgihgagGreatDoor
