import Derived.Test.YtbgngikejgihgafGreatDoorProg
import Derived.Test.YtbgngikejgihgafGreatDoorMq01
import Derived.Test.YtbgngikejgihgafGreatDoorMq10
import Derived.WalkKit
import Derived.WalkLawsBesides
import Derived.Deep.QuietTactic
import Derived.BigQuiet
import Derived.Laws.AppendOwnNone
import Derived.Lib.SliceRun
import Derived.Test.YtbgngikejgihgafGreatDoorMq04
namespace Go.Proofs.YtbgngikejgihgafGreatDoor
open Go Go.RowKit
set_option linter.unusedVariables false

/-- A gap buffer's three cells. -/
structure GC (w : World) (B o : Nat) (v : Value) (lo hi : Int) : Prop where
  c0 : w.cell? ⟨B, o, none⟩ = some v
  c1 : w.cell? ⟨B, o + 1, none⟩ = some (.int .i64 lo)
  c2 : w.cell? ⟨B, o + 2, none⟩ = some (.int .i64 hi)

theorem GC.lt {w : World} {B o : Nat} {v : Value} {lo hi : Int} (h : GC w B o v lo hi) : B < w.heap.size := World.block_lt_of_cell? w _ h.c0
theorem GC.below {w w' : World} {B o D : Nat} {v : Value} {lo hi : Int} (h : GC w B o v lo hi) (hb : Below D w w') (hD : w.heap.size ≤ D) : GC w' B o v lo hi := by
  have hl := h.lt
  exact ⟨(hb.cell (p := ⟨B, o, none⟩) (by show B < D; omega)).trans h.c0, (hb.cell (p := ⟨B, o + 1, none⟩) (by show B < D; omega)).trans h.c1, (hb.cell (p := ⟨B, o + 2, none⟩) (by show B < D; omega)).trans h.c2⟩

theorem GC.same {w w' : World} {B o : Nat} {v : Value} {lo hi : Int} (h : GC w B o v lo hi) (hh : w'.heap = w.heap) : GC w' B o v lo hi :=
  ⟨(World.cell?_of_block (w := w) (by rw [hh])).trans h.c0, (World.cell?_of_block (w := w) (by rw [hh])).trans h.c1, (World.cell?_of_block (w := w) (by rw [hh])).trans h.c2⟩

theorem GC.drew {w : World} {B o : Nat} {v : Value} {lo hi : Int} (h : GC w B o v lo hi) (n : Nat) : GC (w.drewN n) B o v lo hi :=
  ⟨by simpa using h.c0, by simpa using h.c1, by simpa using h.c2⟩

set_option maxHeartbeats 1000000 in
theorem gapN (B o : Nat) (v : Value) (lo hi : Int) (w : World) (h : GC w B o v lo hi) (h0 : 0 ≤ lo) (h1 : lo ≤ hi) (h2 : hi ≤ 1099511627776) :
    Calls Tryz.prog 139 #[.pointer (some ⟨B, o, none⟩)] w fun e w' => e = .returned (.int .i64 (hi - lo)) ∧ ∃ n, w' = w.drewN n := by
  obtain ⟨c0, c1, c2⟩ := h
  go_enter Tryz.func139, Tryz.ntmps139
  go_wp2
  go_quiet (fail)
  go_wp2
  go_ret
  exact ⟨rfl, _, rfl⟩

set_option maxHeartbeats 1000000 in
theorem lengthN (B o : Nat) (ao : Option Addr) (n cap : Nat) (lo hi : Int) (w : World) (h : GC w B o (.slice ao n cap) lo hi) (h0 : 0 ≤ lo) (h1 : lo ≤ hi) (h2 : hi ≤ n) (hn : n ≤ 1099511627776) :
    Calls Tryz.prog 119 #[.pointer (some ⟨B, o, none⟩)] w fun e w' => e = .returned (.int .i64 (n - (hi - lo))) ∧ ∃ n, w' = w.drewN n := by
  have HK := hide (fun w h => gapN B o (.slice ao n cap) lo hi w h h0 h1 (by omega))
  have H := hide h
  obtain ⟨c0, c1, c2⟩ := h
  go_enter Tryz.func119, Tryz.ntmps119
  go_wp2
  go_quiet ((go_at_call 139; exact Calls.quiet_of (HK.out _ (H.out.drew _))))
  go_wp2
  go_ret
  exact ⟨rfl, _, rfl⟩
end Go.Proofs.YtbgngikejgihgafGreatDoor

namespace Go.Proofs.YtbgngikejgihgafGreatDoor
open Go Go.RowKit
set_option linter.unusedVariables false

theorem Tryz.infoG : (Tryz.prog.info? 21).map (fun i => (i.zero, i.size, i.bytes)) = some (some (.int .i32 0), 1, 4) := by kernel_rfl

/-- A slice value that is nil or leads to cells. -/
def Sl (k : IntKind) (w : World) (v : Value) (zs : List Int) : Prop :=
  (v = .slice none 0 0 ∧ zs = []) ∨
  (∃ b off cap, v = .slice (some ⟨b, off, none⟩) zs.length cap ∧ b < w.heap.size ∧ ∀ i, i < zs.length → w.cell? ⟨b, off + i, none⟩ = some (.int k (zs.getD i 0)))

theorem Sl.of_owns {k : IntKind} {w : World} {base : Nat} {e : TypeId} {v : Value} {n : Nat} {zs : List Int} (h : w.ownsRow base e 1 v n (ints k zs)) : Sl k w v zs := by
  have hl : zs.length = n := by have := h.1; simpa [ints] using this
  rcases h.2 with ⟨hv, hn⟩ | ⟨g, cap, cur, hv, _⟩
  · left; exact ⟨hv, by apply List.eq_nil_of_length_eq_zero; omega⟩
  · subst hv
    right
    exact ⟨g, 0, cap, by rw [hl], (h.lt g rfl).2, fun i hi => by rw [Nat.zero_add]; exact owns_cell h i (by omega)⟩

theorem Sl.below {k : IntKind} {w w' : World} {v : Value} {zs : List Int} (h : Sl k w v zs) (hb : Below w.heap.size w w') : Sl k w' v zs := by
  rcases h with h | ⟨b, off, cap, hv, hB, hc⟩
  · exact .inl h
  · exact .inr ⟨b, off, cap, hv, Nat.lt_of_lt_of_le hB hb.size, fun i hi => (hb.cell (p := ⟨b, off + i, none⟩) hB).trans (hc i hi)⟩

theorem Sl.rd {k : IntKind} {w : World} {v : Value} {zs : List Int} (h : Sl k w v zs) {b off cap : Nat} (hv : v = .slice (some ⟨b, off, none⟩) zs.length cap) : ∀ j u, (ints k zs)[j]? = some u → w.cell? ((⟨b, off, none⟩ : Addr).add j) = some u := by
  rcases h with ⟨h, _⟩ | ⟨b', off', cap', hv', _, hc⟩
  · rw [h] at hv; cases hv
  · rw [hv] at hv'
    simp only [Value.slice.injEq, Option.some.injEq, Addr.mk.injEq, and_true, true_and] at hv'
    obtain ⟨⟨rfl, rfl⟩, _⟩ := hv'
    have := cut_cells (o := 0) (l := zs.length) hc
    simpa using this

end Go.Proofs.YtbgngikejgihgafGreatDoor

namespace Go.Proofs.YtbgngikejgihgafGreatDoor
open Go Go.RowKit
set_option linter.unusedVariables false

set_option maxHeartbeats 1000000 in
set_option maxRecDepth 100000 in
theorem clone32 (xs : List Int) (v : Value) (w : World) (h : Sl .i32 w v xs) (hx : xs.length ≤ 1048576) :
    Calls Tryz.prog 76 #[v] w fun e w' => ∃ v', e = .returned v' ∧ w'.ownsRow w.heap.size 21 1 v' xs.length (ints .i32 xs) ∧ Below w.heap.size w w' := by
  obtain ⟨i0, hi, hz0, hz1, hz2⟩ := info_parts Tryz.infoG
  have HS := hide h
  rcases h with ⟨rfl, rfl⟩ | ⟨b, off, cap, rfl, _, _⟩
  · have hq := fun w : World => Lib.run_eql_slice_nil (P := Tryz.prog) w 25 21 none 0 0 0 0 Tryz.underlying25
    simp only [Option.isNone_none] at hq
    go_enter Tryz.func76, Tryz.ntmps76
    go_wp2
    go_ret
    exact ⟨_, rfl, World.ownsRow_nil _ _ _ _, Below.refl _ _⟩
  · have hown0 : (w.alloc (.cells #[] 21)).ownsRow w.heap.size 21 1 (.slice (some ⟨w.heap.size, 0, none⟩) 0 0) 0 [] := by
      have := World.ownsRow_made (base := w.heap.size) (e := 21) (size := 1) w #[] 0 (by simp) (Nat.zero_le _) rfl
      simpa using this
    have H0 := hide hown0
    have HB1 := hide ((Below.refl w.heap.size w).alloc (Nat.le_refl _) (.cells #[] 21))
    have HC := hide ((HS.out.below HB1.out).rd rfl)
    have hq := fun w : World => Lib.run_eql_slice_nil (P := Tryz.prog) w 25 21 (some ⟨b, off, none⟩) xs.length cap 0 0 Tryz.underlying25
    simp only [Option.isNone_some] at hq
    clear hown0
    go_enter Tryz.func76, Tryz.ntmps76
    go_wp2_with (at_builtin; refine wpList_append_own _ rfl _ _ 25 rfl w.heap.size 21 i0 (.int .i32 0) 1 4 Tryz.underlying25 hi hz0 hz1 hz2 rfl (by decide) _ 0 [] rfl H0.out ⟨b, off, none⟩ xs.length cap (ints .i32 xs) rfl (by rw [ints_length, Nat.mul_one]) HC.out (ints_one _ _) (by unfold maxLen; omega) (by omega) HB1.out.size ?_; intro v3 w3 ho3 hg3 _)
    rw [Nat.zero_add, List.nil_append] at ho3
    have HO3 := hide ho3
    have HB3 := hide (HB1.out.grown hg3 HB1.out.size (fun q hq => by cases hq; exact Nat.le_refl _))
    clear ho3 hg3
    go_wp2
    go_ret
    exact ⟨_, rfl, HO3.out, HB3.out⟩
end Go.Proofs.YtbgngikejgihgafGreatDoor

namespace Go.Proofs.YtbgngikejgihgafGreatDoor
open Go Go.RowKit
set_option linter.unusedVariables false

/-- A row's cells. -/
def Cl (w : World) (g : Nat) (zs : List Int) : Prop := ∀ i, i < zs.length → w.cell? ⟨g, i, none⟩ = some (.int .i32 (zs.getD i 0))

theorem Cl.below {w w' : World} {g D : Nat} {zs : List Int} (h : Cl w g zs) (hb : Below D w w') (hg : g < D) : Cl w' g zs := fun i hi => (hb.cell (p := ⟨g, i, none⟩) hg).trans (h i hi)

theorem Cl.cut {w : World} {g p l c : Nat} {zs : List Int} (h : Cl w g zs) (hg : g < w.heap.size) (hp : p + l ≤ zs.length) : Sl .i32 w (.slice (some ⟨g, p, none⟩) l c) ((zs.drop p).take l) := by
  have e : ((zs.drop p).take l).length = l := by simp only [List.length_take, List.length_drop]; omega
  refine .inr ⟨g, p, c, by rw [e], hg, fun i hi => ?_⟩
  rw [e] at hi
  rw [h (p + i) (by omega), gd_take, if_pos hi, gd_drop]

theorem Sl.empty {w : World} {g c : Nat} {xs : List Int} (hg : g < w.heap.size) (hl : xs.length = 0) : Sl .i32 w (.slice (some ⟨g, 0, none⟩) 0 c) xs := by
  obtain rfl := List.eq_nil_of_length_eq_zero hl
  exact .inr ⟨g, 0, c, by simp, hg, fun i hi => by simp at hi⟩

end Go.Proofs.YtbgngikejgihgafGreatDoor
