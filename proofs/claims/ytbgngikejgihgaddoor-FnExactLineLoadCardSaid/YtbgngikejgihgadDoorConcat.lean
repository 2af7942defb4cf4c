import Derived.Test.YtbgngikejgihgadDoorProg
import Derived.Test.YtbgngikejgihgadDoorGrow
import Derived.WalkKit
import Derived.WalkLawsBesides
import Derived.Laws.AppendOwnNone
namespace Go.Proofs.YtbgngikejgihgadDoor
open Go Go.RowKit
set_option linter.unusedVariables false

/-- A slice value that is nil or leads to cells. -/
def Sl (k : IntKind) (w : World) (v : Value) (zs : List Int) : Prop :=
  (v = .slice none 0 0 ∧ zs = []) ∨
  (∃ b off cap, v = .slice (some ⟨b, off, none⟩) zs.length cap ∧ b < w.heap.size ∧ ∀ i, i < zs.length → w.cell? ⟨b, off + i, none⟩ = some (.int k (zs.getD i 0)))

theorem Sl.of_owns {k : IntKind} {w : World} {base : Nat} {e : TypeId} {v : Value} {n : Nat} {zs : List Int} (h : w.ownsRow base e 1 v n (ints k zs)) : Sl k w v zs := by
  have hl : zs.length = n := by have := h.1; simpa [ints] using this
  rcases h.2 with ⟨hv, hn⟩ | ⟨g, cap, cur, hv, _⟩
  · left; exact ⟨hv, by apply List.eq_nil_of_length_eq_zero; omega⟩
  · subst hv
    right
    exact ⟨g, 0, cap, by rw [hl], (h.lt g rfl).2, fun i hi => by rw [Nat.zero_add]; exact owns_cell h i (by omega)⟩

theorem Sl.below {k : IntKind} {w w' : World} {v : Value} {zs : List Int} (h : Sl k w v zs) (hb : Below w.heap.size w w') : Sl k w' v zs := by
  rcases h with h | ⟨b, off, cap, hv, hB, hc⟩
  · exact .inl h
  · exact .inr ⟨b, off, cap, hv, Nat.lt_of_lt_of_le hB hb.size, fun i hi => (hb.cell (p := ⟨b, off + i, none⟩) hB).trans (hc i hi)⟩

theorem Sl.rd {k : IntKind} {w : World} {v : Value} {zs : List Int} (h : Sl k w v zs) {b off cap : Nat} (hv : v = .slice (some ⟨b, off, none⟩) zs.length cap) : ∀ j u, (ints k zs)[j]? = some u → w.cell? ((⟨b, off, none⟩ : Addr).add j) = some u := by
  rcases h with ⟨h, _⟩ | ⟨b', off', cap', hv', _, hc⟩
  · rw [h] at hv; cases hv
  · rw [hv] at hv'
    simp only [Value.slice.injEq, Option.some.injEq, Addr.mk.injEq, and_true, true_and] at hv'
    obtain ⟨⟨rfl, rfl⟩, _⟩ := hv'
    have := cut_cells (o := 0) (l := zs.length) hc
    simpa using this

set_option maxHeartbeats 2000000 in
set_option maxRecDepth 100000 in
theorem concat (xs ys : List Int) (vs vt : Value) (B : Nat) (w : World) (hS : Sl .i32 w vs xs) (hT : Sl .i32 w vt ys) (hB : B < w.heap.size) (k0 : w.cell? ⟨B, 0, none⟩ = some vs) (k1 : w.cell? ⟨B, 1, none⟩ = some vt) (hx : xs.length ≤ 1048576) (hy : ys.length ≤ 1048576) :
    Calls Tryd.prog 121 #[.slice (some ⟨B, 0, none⟩) 2 2] w fun e w' => ∃ v', e = .returned v' ∧ w'.ownsRow w.heap.size 21 1 v' (xs ++ ys).length (ints .i32 (xs ++ ys)) ∧ Below w.heap.size w w' := by
  obtain ⟨i0, hi, hz0, hz1, hz2⟩ := info_parts Tryd.infoG
  have HS := hide hS
  have HT := hide hT
  rcases hS with ⟨rfl, rfl⟩ | ⟨b, off, cap, rfl, _, _⟩
  · rcases hT with ⟨rfl, rfl⟩ | ⟨b2, off2, cap2, rfl, _, _⟩
    · skip
      go_enter Tryd.func121, Tryd.ntmps121
      go_wp2
      refine wp_loop_rounds 3 ?_
      rw [rounds_succ]
      go_wp2
      rw [rounds_succ]
      go_wp2
      rw [rounds_succ]
      go_wp2_with fail
      refine (growNil 0 _ (by omega)).mono ?_
      rintro e w1 ⟨v1, rfl, ho, hb⟩
      have HO1 := hide ho
      have HB1 := hide hb
      have hs1 := hb.size
      have e0 := (hb.cell (p := ⟨B, 0, none⟩) hB).trans k0
      have e1 := (hb.cell (p := ⟨B, 1, none⟩) hB).trans k1
      clear ho hb
      go_wp2_with fail
      refine wp_loop_rounds 3 ?_
      rw [rounds_succ]
      go_wp2_with (at_builtin; refine wpList_append_own_none rfl _ _ 22 rfl w.heap.size 21 i0 1 Tryd.underlying22 hi _ _ _ rfl HO1.out rfl ?_)
      rw [rounds_succ]
      go_wp2_with (at_builtin; refine wpList_append_own_none rfl _ _ 22 rfl w.heap.size 21 i0 1 Tryd.underlying22 hi _ _ _ rfl HO1.out rfl ?_)
      rw [rounds_succ]
      go_wp2
      go_ret
      exact ⟨_, rfl, by simpa [ints, Nat.add_assoc] using HO1.out, HB1.out⟩
    · skip
      go_enter Tryd.func121, Tryd.ntmps121
      go_wp2
      refine wp_loop_rounds 3 ?_
      rw [rounds_succ]
      go_wp2
      rw [rounds_succ]
      go_wp2
      rw [rounds_succ]
      go_wp2_with fail
      refine (growNil ys.length _ (by omega)).mono ?_
      rintro e w1 ⟨v1, rfl, ho, hb⟩
      have HO1 := hide ho
      have HB1 := hide hb
      have hs1 := hb.size
      have e0 := (hb.cell (p := ⟨B, 0, none⟩) hB).trans k0
      have e1 := (hb.cell (p := ⟨B, 1, none⟩) hB).trans k1
      clear ho hb
      go_wp2_with fail
      refine wp_loop_rounds 3 ?_
      rw [rounds_succ]
      go_wp2_with (at_builtin; refine wpList_append_own_none rfl _ _ 22 rfl w.heap.size 21 i0 1 Tryd.underlying22 hi _ _ _ rfl HO1.out rfl ?_)
      rw [rounds_succ]
      have HC3 := hide (HT.out.below HB1.out |>.rd rfl)
      go_wp2_with (at_builtin; refine wpList_append_own _ rfl _ _ 22 rfl w.heap.size 21 i0 (.int .i32 0) 1 4 Tryd.underlying22 hi hz0 hz1 hz2 rfl (by decide) _ _ _ rfl HO1.out ⟨b2, off2, none⟩ ys.length cap2 (ints .i32 ys) rfl (by rw [ints_length, Nat.mul_one]) HC3.out (ints_one _ _) (by unfold maxLen; omega) (by omega) hs1 ?_; intro v3 w3 ho3 hg3 _)
      have HO3 := hide ho3
      have HB3 := hide (HB1.out.grown hg3 hs1 (fun q hq => (HO1.out.lt q hq).1))
      have hs3 := HB3.out.size
      have f03 := (HB3.out.cell (p := ⟨B, 0, none⟩) hB).trans k0
      have f13 := (HB3.out.cell (p := ⟨B, 1, none⟩) hB).trans k1
      clear ho3 hg3
      go_wp2
      rw [rounds_succ]
      go_wp2
      go_ret
      exact ⟨_, rfl, by simpa [ints, Nat.add_assoc] using HO3.out, HB3.out⟩
  · rcases hT with ⟨rfl, rfl⟩ | ⟨b2, off2, cap2, rfl, _, _⟩
    · skip
      go_enter Tryd.func121, Tryd.ntmps121
      go_wp2
      refine wp_loop_rounds 3 ?_
      rw [rounds_succ]
      go_wp2
      rw [rounds_succ]
      go_wp2
      rw [rounds_succ]
      go_wp2_with fail
      refine (growNil xs.length _ (by omega)).mono ?_
      rintro e w1 ⟨v1, rfl, ho, hb⟩
      have HO1 := hide ho
      have HB1 := hide hb
      have hs1 := hb.size
      have e0 := (hb.cell (p := ⟨B, 0, none⟩) hB).trans k0
      have e1 := (hb.cell (p := ⟨B, 1, none⟩) hB).trans k1
      clear ho hb
      go_wp2_with fail
      refine wp_loop_rounds 3 ?_
      rw [rounds_succ]
      have HC2 := hide (HS.out.below HB1.out |>.rd rfl)
      go_wp2_with (at_builtin; refine wpList_append_own _ rfl _ _ 22 rfl w.heap.size 21 i0 (.int .i32 0) 1 4 Tryd.underlying22 hi hz0 hz1 hz2 rfl (by decide) _ _ _ rfl HO1.out ⟨b, off, none⟩ xs.length cap (ints .i32 xs) rfl (by rw [ints_length, Nat.mul_one]) HC2.out (ints_one _ _) (by unfold maxLen; omega) (by omega) hs1 ?_; intro v2 w2 ho2 hg2 _)
      have HO2 := hide ho2
      have HB2 := hide (HB1.out.grown hg2 hs1 (fun q hq => (HO1.out.lt q hq).1))
      have hs2 := HB2.out.size
      have f02 := (HB2.out.cell (p := ⟨B, 0, none⟩) hB).trans k0
      have f12 := (HB2.out.cell (p := ⟨B, 1, none⟩) hB).trans k1
      clear ho2 hg2
      go_wp2
      rw [rounds_succ]
      go_wp2_with (at_builtin; refine wpList_append_own_none rfl _ _ 22 rfl w.heap.size 21 i0 1 Tryd.underlying22 hi _ _ _ rfl HO2.out rfl ?_)
      rw [rounds_succ]
      go_wp2
      go_ret
      exact ⟨_, rfl, by simpa [ints, Nat.add_assoc] using HO2.out, HB2.out⟩
    · skip
      go_enter Tryd.func121, Tryd.ntmps121
      go_wp2
      refine wp_loop_rounds 3 ?_
      rw [rounds_succ]
      go_wp2
      rw [rounds_succ]
      go_wp2
      rw [rounds_succ]
      go_wp2_with fail
      rw [show (xs.length : Int) + (ys.length : Int) = ((xs.length + ys.length : Nat) : Int) by omega]
      refine (growNil (xs.length + ys.length) _ (by omega)).mono ?_
      rintro e w1 ⟨v1, rfl, ho, hb⟩
      have HO1 := hide ho
      have HB1 := hide hb
      have hs1 := hb.size
      have e0 := (hb.cell (p := ⟨B, 0, none⟩) hB).trans k0
      have e1 := (hb.cell (p := ⟨B, 1, none⟩) hB).trans k1
      clear ho hb
      go_wp2_with fail
      refine wp_loop_rounds 3 ?_
      rw [rounds_succ]
      have HC2 := hide (HS.out.below HB1.out |>.rd rfl)
      go_wp2_with (at_builtin; refine wpList_append_own _ rfl _ _ 22 rfl w.heap.size 21 i0 (.int .i32 0) 1 4 Tryd.underlying22 hi hz0 hz1 hz2 rfl (by decide) _ _ _ rfl HO1.out ⟨b, off, none⟩ xs.length cap (ints .i32 xs) rfl (by rw [ints_length, Nat.mul_one]) HC2.out (ints_one _ _) (by unfold maxLen; omega) (by omega) hs1 ?_; intro v2 w2 ho2 hg2 _)
      have HO2 := hide ho2
      have HB2 := hide (HB1.out.grown hg2 hs1 (fun q hq => (HO1.out.lt q hq).1))
      have hs2 := HB2.out.size
      have f02 := (HB2.out.cell (p := ⟨B, 0, none⟩) hB).trans k0
      have f12 := (HB2.out.cell (p := ⟨B, 1, none⟩) hB).trans k1
      clear ho2 hg2
      go_wp2
      rw [rounds_succ]
      have HC3 := hide (HT.out.below HB2.out |>.rd rfl)
      go_wp2_with (at_builtin; refine wpList_append_own _ rfl _ _ 22 rfl w.heap.size 21 i0 (.int .i32 0) 1 4 Tryd.underlying22 hi hz0 hz1 hz2 rfl (by decide) _ _ _ rfl HO2.out ⟨b2, off2, none⟩ ys.length cap2 (ints .i32 ys) rfl (by rw [ints_length, Nat.mul_one]) HC3.out (ints_one _ _) (by unfold maxLen; omega) (by omega) hs2 ?_; intro v3 w3 ho3 hg3 _)
      have HO3 := hide ho3
      have HB3 := hide (HB2.out.grown hg3 hs2 (fun q hq => (HO2.out.lt q hq).1))
      have hs3 := HB3.out.size
      have f03 := (HB3.out.cell (p := ⟨B, 0, none⟩) hB).trans k0
      have f13 := (HB3.out.cell (p := ⟨B, 1, none⟩) hB).trans k1
      clear ho3 hg3
      go_wp2
      rw [rounds_succ]
      go_wp2
      go_ret
      exact ⟨_, rfl, by simpa [ints, Nat.add_assoc] using HO3.out, HB3.out⟩
end Go.Proofs.YtbgngikejgihgadDoor
