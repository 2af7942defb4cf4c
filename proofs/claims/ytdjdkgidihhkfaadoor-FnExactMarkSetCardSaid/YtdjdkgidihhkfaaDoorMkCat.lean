import Derived.Test.YtdjdkgidihhkfaaDoorMkGrow
import Derived.Laws.AppendOwnNone
namespace Go.Proofs.YtdjdkgidihhkfaaDoor
open Go Go.RowKit
set_option linter.unusedVariables false

/-- A slice value that is nil or leads to marks. -/
def SlM (w : World) (v : Value) (xs : List Mk) : Prop :=
  (v = .slice none 0 0 ∧ xs = []) ∨
  (∃ b off cap, v = .slice (some ⟨b, off, none⟩) xs.length cap ∧ b < w.heap.size ∧ ∀ i x, xs[i]? = some x → MkAt w b (off + i * 3) x)

theorem SlM.below {w w' : World} {v : Value} {xs : List Mk} (h : SlM w v xs) (hb : Below w.heap.size w w') : SlM w' v xs := by
  rcases h with h | ⟨b, off, cap, hv, hB, hc⟩
  · exact .inl h
  · refine .inr ⟨b, off, cap, hv, Nat.lt_of_lt_of_le hB hb.size, fun i x hx => ?_⟩
    have hk : ∀ o, w'.cell? ⟨b, o, none⟩ = w.cell? ⟨b, o, none⟩ := fun o => hb.cell (p := ⟨b, o, none⟩) hB
    have := hc i x hx
    unfold MkAt at this ⊢
    rw [hk, hk, hk]; exact this

theorem SlM.rd {w : World} {v : Value} {xs : List Mk} (h : SlM w v xs) {b off cap : Nat} (hv : v = .slice (some ⟨b, off, none⟩) xs.length cap) : ∀ j u, (mkVs xs)[j]? = some u → w.cell? ((⟨b, off, none⟩ : Addr).add j) = some u := by
  rcases h with ⟨h, _⟩ | ⟨b', off', cap', hv', _, hc⟩
  · rw [h] at hv; cases hv
  · rw [hv] at hv'
    simp only [Value.slice.injEq, Option.some.injEq, Addr.mk.injEq, and_true, true_and] at hv'
    obtain ⟨⟨rfl, rfl⟩, _⟩ := hv'
    intro j u hj
    have hjl : j < xs.length * 3 := by have := (List.getElem?_eq_some_iff.1 hj).1; rwa [mkVs_length] at this
    have hq : j / 3 < xs.length := by omega
    have hx : xs[j / 3]? = some xs[j / 3] := by simp [hq]
    have hg := mkVs_get xs (j / 3) (j % 3) _ hx (by omega)
    rw [show j / 3 * 3 + j % 3 = j by omega, hj] at hg
    obtain ⟨a0, a1, a2⟩ := hc (j / 3) _ hx
    rw [addr_add]
    have h3 : j % 3 = 0 ∨ j % 3 = 1 ∨ j % 3 = 2 := by omega
    rcases h3 with e | e | e
    · rw [e] at hg
      rw [show off + j = off + j / 3 * 3 by omega, a0, hg]; rfl
    · rw [e] at hg
      rw [show off + j = off + j / 3 * 3 + 1 by omega, a1, hg]; rfl
    · rw [e] at hg
      rw [show off + j = off + j / 3 * 3 + 2 by omega, a2, hg]; rfl

theorem SlM.of_owns {w : World} {base : Nat} {v : Value} {xs : List Mk} (h : OwM w base v xs) : SlM w v xs := by
  rcases h.shape with ⟨rfl, rfl⟩ | ⟨g, cap, rfl, _, _, _, hl⟩
  · exact .inl ⟨rfl, rfl⟩
  · refine .inr ⟨g, 0, cap, rfl, hl, fun i x hx => ?_⟩
    have hil : i < xs.length := (List.getElem?_eq_some_iff.1 hx).1
    have key : ∀ k, k < 3 → w.cell? ⟨g, i * 3 + k, none⟩ = (mkV x)[k]? := fun k hk => by
      rw [h.cellAt (i * 3 + k) (by omega), mkVs_get xs i k x hx hk]
    have k0 := key 0 (by omega)
    have k1 := key 1 (by omega)
    have k2 := key 2 (by omega)
    rw [Nat.zero_add]
    exact ⟨k0, k1, k2⟩

set_option maxHeartbeats 2000000 in
set_option maxRecDepth 100000 in
theorem concat3M (xs ys zs : List Mk) (v0a v1a v2a : Value) (B : Nat) (w : World) (h0 : SlM w v0a xs) (h1 : SlM w v1a ys) (h2 : SlM w v2a zs) (hB : B < w.heap.size) (k0 : w.cell? ⟨B, 0, none⟩ = some v0a) (k1 : w.cell? ⟨B, 1, none⟩ = some v1a) (k2 : w.cell? ⟨B, 2, none⟩ = some v2a) (l0 : xs.length ≤ 1048576) (l1 : ys.length ≤ 1048576) (l2 : zs.length ≤ 1048576) :
    Calls Tryd.prog 70 #[.slice (some ⟨B, 0, none⟩) 3 3] w fun e w' => ∃ v', e = .returned v' ∧ OwM w' w.heap.size v' (xs ++ ys ++ zs) ∧ Below w.heap.size w w' := by
  obtain ⟨i0, hi, hz0, hz1, hz2⟩ := info_parts Tryd.infoMK
  have HS0 := hide h0
  have HS1 := hide h1
  have HS2 := hide h2
  rcases h0 with ⟨rfl, rfl⟩ | ⟨b0, o0, c0, rfl, _, _⟩
  · skip
    rcases h1 with ⟨rfl, rfl⟩ | ⟨b1, o1, c1, rfl, _, _⟩
    · skip
      rcases h2 with ⟨rfl, rfl⟩ | ⟨b2, o2, c2, rfl, _, _⟩
      · skip
        skip
        go_enter Tryd.func70, Tryd.ntmps70
        go_wp2
        refine wp_loop_rounds 4 ?_
        rw [rounds_succ]
        go_wp2
        rw [rounds_succ]
        go_wp2
        rw [rounds_succ]
        go_wp2
        rw [rounds_succ]
        go_wp2_with fail
        refine (growNilM (0) _ (by omega)).mono ?_
        rintro e w1 ⟨v1, rfl, ho, hb⟩
        have HO := hide ho
        have HBq := hide hb
        have hs1 := hb.size
        have e0 := (hb.cell (p := ⟨B, 0, none⟩) hB).trans k0
        have e1 := (hb.cell (p := ⟨B, 1, none⟩) hB).trans k1
        have e2 := (hb.cell (p := ⟨B, 2, none⟩) hB).trans k2
        clear ho hb
        go_wp2_with fail
        refine wp_loop_rounds 4 ?_
        rw [rounds_succ]
        go_wp2_with (at_builtin; refine wpList_append_own_none rfl _ _ 53 rfl w.heap.size 57 i0 3 Tryd.underlying53 hi _ _ _ rfl HO.out rfl ?_)
        rw [rounds_succ]
        go_wp2_with (at_builtin; refine wpList_append_own_none rfl _ _ 53 rfl w.heap.size 57 i0 3 Tryd.underlying53 hi _ _ _ rfl HO.out rfl ?_)
        rw [rounds_succ]
        go_wp2_with (at_builtin; refine wpList_append_own_none rfl _ _ 53 rfl w.heap.size 57 i0 3 Tryd.underlying53 hi _ _ _ rfl HO.out rfl ?_)
        rw [rounds_succ]
        go_wp2
        go_ret
        exact ⟨_, rfl, by simpa [OwM, mkVs, Nat.add_assoc] using HO.out, HBq.out⟩
      · skip
        skip
        go_enter Tryd.func70, Tryd.ntmps70
        go_wp2
        refine wp_loop_rounds 4 ?_
        rw [rounds_succ]
        go_wp2
        rw [rounds_succ]
        go_wp2
        rw [rounds_succ]
        go_wp2
        rw [rounds_succ]
        go_wp2_with fail
        refine (growNilM (zs.length) _ (by omega)).mono ?_
        rintro e w1 ⟨v1, rfl, ho, hb⟩
        have HO := hide ho
        have HBq := hide hb
        have hs1 := hb.size
        have e0 := (hb.cell (p := ⟨B, 0, none⟩) hB).trans k0
        have e1 := (hb.cell (p := ⟨B, 1, none⟩) hB).trans k1
        have e2 := (hb.cell (p := ⟨B, 2, none⟩) hB).trans k2
        clear ho hb
        go_wp2_with fail
        refine wp_loop_rounds 4 ?_
        rw [rounds_succ]
        go_wp2_with (at_builtin; refine wpList_append_own_none rfl _ _ 53 rfl w.heap.size 57 i0 3 Tryd.underlying53 hi _ _ _ rfl HO.out rfl ?_)
        rw [rounds_succ]
        go_wp2_with (at_builtin; refine wpList_append_own_none rfl _ _ 53 rfl w.heap.size 57 i0 3 Tryd.underlying53 hi _ _ _ rfl HO.out rfl ?_)
        rw [rounds_succ]
        have HC2 := hide (HS2.out.below HBq.out |>.rd rfl)
        go_wp2_with (at_builtin; refine wpList_append_own _ rfl _ _ 53 rfl w.heap.size 57 i0 (.agg #[.int .i64 0, .int .i64 0, .int .i64 0]) 3 24 Tryd.underlying53 hi hz0 hz1 hz2 rfl (by decide) _ _ _ rfl HO.out ⟨b2, o2, none⟩ zs.length c2 (mkVs zs) rfl (mkVs_length zs) HC2.out (mkVs_one zs) (by unfold maxLen; omega) (by omega) hs1 ?_; intro u2 x2 ho2 hg2 _)
        have HO2 := hide ho2
        have HB2 := hide (HBq.out.grown hg2 hs1 (fun q hq => (HO.out.lt q hq).1))
        have hs1 := HB2.out.size
        have e0 := (HB2.out.cell (p := ⟨B, 0, none⟩) hB).trans k0
        have e1 := (HB2.out.cell (p := ⟨B, 1, none⟩) hB).trans k1
        have e2 := (HB2.out.cell (p := ⟨B, 2, none⟩) hB).trans k2
        clear ho2 hg2
        go_wp2
        rw [rounds_succ]
        go_wp2
        go_ret
        exact ⟨_, rfl, by simpa [OwM, mkVs, Nat.add_assoc] using HO2.out, HB2.out⟩
    · skip
      rcases h2 with ⟨rfl, rfl⟩ | ⟨b2, o2, c2, rfl, _, _⟩
      · skip
        skip
        go_enter Tryd.func70, Tryd.ntmps70
        go_wp2
        refine wp_loop_rounds 4 ?_
        rw [rounds_succ]
        go_wp2
        rw [rounds_succ]
        go_wp2
        rw [rounds_succ]
        go_wp2
        rw [rounds_succ]
        go_wp2_with fail
        refine (growNilM (ys.length) _ (by omega)).mono ?_
        rintro e w1 ⟨v1, rfl, ho, hb⟩
        have HO := hide ho
        have HBq := hide hb
        have hs1 := hb.size
        have e0 := (hb.cell (p := ⟨B, 0, none⟩) hB).trans k0
        have e1 := (hb.cell (p := ⟨B, 1, none⟩) hB).trans k1
        have e2 := (hb.cell (p := ⟨B, 2, none⟩) hB).trans k2
        clear ho hb
        go_wp2_with fail
        refine wp_loop_rounds 4 ?_
        rw [rounds_succ]
        go_wp2_with (at_builtin; refine wpList_append_own_none rfl _ _ 53 rfl w.heap.size 57 i0 3 Tryd.underlying53 hi _ _ _ rfl HO.out rfl ?_)
        rw [rounds_succ]
        have HC1 := hide (HS1.out.below HBq.out |>.rd rfl)
        go_wp2_with (at_builtin; refine wpList_append_own _ rfl _ _ 53 rfl w.heap.size 57 i0 (.agg #[.int .i64 0, .int .i64 0, .int .i64 0]) 3 24 Tryd.underlying53 hi hz0 hz1 hz2 rfl (by decide) _ _ _ rfl HO.out ⟨b1, o1, none⟩ ys.length c1 (mkVs ys) rfl (mkVs_length ys) HC1.out (mkVs_one ys) (by unfold maxLen; omega) (by omega) hs1 ?_; intro u1 x1 ho1 hg1 _)
        have HO1 := hide ho1
        have HB1 := hide (HBq.out.grown hg1 hs1 (fun q hq => (HO.out.lt q hq).1))
        have hs1 := HB1.out.size
        have e0 := (HB1.out.cell (p := ⟨B, 0, none⟩) hB).trans k0
        have e1 := (HB1.out.cell (p := ⟨B, 1, none⟩) hB).trans k1
        have e2 := (HB1.out.cell (p := ⟨B, 2, none⟩) hB).trans k2
        clear ho1 hg1
        go_wp2
        rw [rounds_succ]
        go_wp2_with (at_builtin; refine wpList_append_own_none rfl _ _ 53 rfl w.heap.size 57 i0 3 Tryd.underlying53 hi _ _ _ rfl HO1.out rfl ?_)
        rw [rounds_succ]
        go_wp2
        go_ret
        exact ⟨_, rfl, by simpa [OwM, mkVs, Nat.add_assoc] using HO1.out, HB1.out⟩
      · skip
        skip
        go_enter Tryd.func70, Tryd.ntmps70
        go_wp2
        refine wp_loop_rounds 4 ?_
        rw [rounds_succ]
        go_wp2
        rw [rounds_succ]
        go_wp2
        rw [rounds_succ]
        go_wp2
        rw [rounds_succ]
        go_wp2_with fail
        refine (growNilM (ys.length + zs.length) _ (by omega)).mono ?_
        rintro e w1 ⟨v1, rfl, ho, hb⟩
        have HO := hide ho
        have HBq := hide hb
        have hs1 := hb.size
        have e0 := (hb.cell (p := ⟨B, 0, none⟩) hB).trans k0
        have e1 := (hb.cell (p := ⟨B, 1, none⟩) hB).trans k1
        have e2 := (hb.cell (p := ⟨B, 2, none⟩) hB).trans k2
        clear ho hb
        go_wp2_with fail
        refine wp_loop_rounds 4 ?_
        rw [rounds_succ]
        go_wp2_with (at_builtin; refine wpList_append_own_none rfl _ _ 53 rfl w.heap.size 57 i0 3 Tryd.underlying53 hi _ _ _ rfl HO.out rfl ?_)
        rw [rounds_succ]
        have HC1 := hide (HS1.out.below HBq.out |>.rd rfl)
        go_wp2_with (at_builtin; refine wpList_append_own _ rfl _ _ 53 rfl w.heap.size 57 i0 (.agg #[.int .i64 0, .int .i64 0, .int .i64 0]) 3 24 Tryd.underlying53 hi hz0 hz1 hz2 rfl (by decide) _ _ _ rfl HO.out ⟨b1, o1, none⟩ ys.length c1 (mkVs ys) rfl (mkVs_length ys) HC1.out (mkVs_one ys) (by unfold maxLen; omega) (by omega) hs1 ?_; intro u1 x1 ho1 hg1 _)
        have HO1 := hide ho1
        have HB1 := hide (HBq.out.grown hg1 hs1 (fun q hq => (HO.out.lt q hq).1))
        have hs1 := HB1.out.size
        have e0 := (HB1.out.cell (p := ⟨B, 0, none⟩) hB).trans k0
        have e1 := (HB1.out.cell (p := ⟨B, 1, none⟩) hB).trans k1
        have e2 := (HB1.out.cell (p := ⟨B, 2, none⟩) hB).trans k2
        clear ho1 hg1
        go_wp2
        rw [rounds_succ]
        have HC2 := hide (HS2.out.below HB1.out |>.rd rfl)
        go_wp2_with (at_builtin; refine wpList_append_own _ rfl _ _ 53 rfl w.heap.size 57 i0 (.agg #[.int .i64 0, .int .i64 0, .int .i64 0]) 3 24 Tryd.underlying53 hi hz0 hz1 hz2 rfl (by decide) _ _ _ rfl HO1.out ⟨b2, o2, none⟩ zs.length c2 (mkVs zs) rfl (mkVs_length zs) HC2.out (mkVs_one zs) (by unfold maxLen; omega) (by omega) hs1 ?_; intro u2 x2 ho2 hg2 _)
        have HO2 := hide ho2
        have HB2 := hide (HB1.out.grown hg2 hs1 (fun q hq => (HO1.out.lt q hq).1))
        have hs1 := HB2.out.size
        have e0 := (HB2.out.cell (p := ⟨B, 0, none⟩) hB).trans k0
        have e1 := (HB2.out.cell (p := ⟨B, 1, none⟩) hB).trans k1
        have e2 := (HB2.out.cell (p := ⟨B, 2, none⟩) hB).trans k2
        clear ho2 hg2
        go_wp2
        rw [rounds_succ]
        go_wp2
        go_ret
        exact ⟨_, rfl, by simpa [OwM, mkVs, Nat.add_assoc] using HO2.out, HB2.out⟩
  · skip
    rcases h1 with ⟨rfl, rfl⟩ | ⟨b1, o1, c1, rfl, _, _⟩
    · skip
      rcases h2 with ⟨rfl, rfl⟩ | ⟨b2, o2, c2, rfl, _, _⟩
      · skip
        skip
        go_enter Tryd.func70, Tryd.ntmps70
        go_wp2
        refine wp_loop_rounds 4 ?_
        rw [rounds_succ]
        go_wp2
        rw [rounds_succ]
        go_wp2
        rw [rounds_succ]
        go_wp2
        rw [rounds_succ]
        go_wp2_with fail
        refine (growNilM (xs.length) _ (by omega)).mono ?_
        rintro e w1 ⟨v1, rfl, ho, hb⟩
        have HO := hide ho
        have HBq := hide hb
        have hs1 := hb.size
        have e0 := (hb.cell (p := ⟨B, 0, none⟩) hB).trans k0
        have e1 := (hb.cell (p := ⟨B, 1, none⟩) hB).trans k1
        have e2 := (hb.cell (p := ⟨B, 2, none⟩) hB).trans k2
        clear ho hb
        go_wp2_with fail
        refine wp_loop_rounds 4 ?_
        rw [rounds_succ]
        have HC0 := hide (HS0.out.below HBq.out |>.rd rfl)
        go_wp2_with (at_builtin; refine wpList_append_own _ rfl _ _ 53 rfl w.heap.size 57 i0 (.agg #[.int .i64 0, .int .i64 0, .int .i64 0]) 3 24 Tryd.underlying53 hi hz0 hz1 hz2 rfl (by decide) _ _ _ rfl HO.out ⟨b0, o0, none⟩ xs.length c0 (mkVs xs) rfl (mkVs_length xs) HC0.out (mkVs_one xs) (by unfold maxLen; omega) (by omega) hs1 ?_; intro u0 x0 ho0 hg0 _)
        have HO0 := hide ho0
        have HB0 := hide (HBq.out.grown hg0 hs1 (fun q hq => (HO.out.lt q hq).1))
        have hs1 := HB0.out.size
        have e0 := (HB0.out.cell (p := ⟨B, 0, none⟩) hB).trans k0
        have e1 := (HB0.out.cell (p := ⟨B, 1, none⟩) hB).trans k1
        have e2 := (HB0.out.cell (p := ⟨B, 2, none⟩) hB).trans k2
        clear ho0 hg0
        go_wp2
        rw [rounds_succ]
        go_wp2_with (at_builtin; refine wpList_append_own_none rfl _ _ 53 rfl w.heap.size 57 i0 3 Tryd.underlying53 hi _ _ _ rfl HO0.out rfl ?_)
        rw [rounds_succ]
        go_wp2_with (at_builtin; refine wpList_append_own_none rfl _ _ 53 rfl w.heap.size 57 i0 3 Tryd.underlying53 hi _ _ _ rfl HO0.out rfl ?_)
        rw [rounds_succ]
        go_wp2
        go_ret
        exact ⟨_, rfl, by simpa [OwM, mkVs, Nat.add_assoc] using HO0.out, HB0.out⟩
      · skip
        skip
        go_enter Tryd.func70, Tryd.ntmps70
        go_wp2
        refine wp_loop_rounds 4 ?_
        rw [rounds_succ]
        go_wp2
        rw [rounds_succ]
        go_wp2
        rw [rounds_succ]
        go_wp2
        rw [rounds_succ]
        go_wp2_with fail
        refine (growNilM (xs.length + zs.length) _ (by omega)).mono ?_
        rintro e w1 ⟨v1, rfl, ho, hb⟩
        have HO := hide ho
        have HBq := hide hb
        have hs1 := hb.size
        have e0 := (hb.cell (p := ⟨B, 0, none⟩) hB).trans k0
        have e1 := (hb.cell (p := ⟨B, 1, none⟩) hB).trans k1
        have e2 := (hb.cell (p := ⟨B, 2, none⟩) hB).trans k2
        clear ho hb
        go_wp2_with fail
        refine wp_loop_rounds 4 ?_
        rw [rounds_succ]
        have HC0 := hide (HS0.out.below HBq.out |>.rd rfl)
        go_wp2_with (at_builtin; refine wpList_append_own _ rfl _ _ 53 rfl w.heap.size 57 i0 (.agg #[.int .i64 0, .int .i64 0, .int .i64 0]) 3 24 Tryd.underlying53 hi hz0 hz1 hz2 rfl (by decide) _ _ _ rfl HO.out ⟨b0, o0, none⟩ xs.length c0 (mkVs xs) rfl (mkVs_length xs) HC0.out (mkVs_one xs) (by unfold maxLen; omega) (by omega) hs1 ?_; intro u0 x0 ho0 hg0 _)
        have HO0 := hide ho0
        have HB0 := hide (HBq.out.grown hg0 hs1 (fun q hq => (HO.out.lt q hq).1))
        have hs1 := HB0.out.size
        have e0 := (HB0.out.cell (p := ⟨B, 0, none⟩) hB).trans k0
        have e1 := (HB0.out.cell (p := ⟨B, 1, none⟩) hB).trans k1
        have e2 := (HB0.out.cell (p := ⟨B, 2, none⟩) hB).trans k2
        clear ho0 hg0
        go_wp2
        rw [rounds_succ]
        go_wp2_with (at_builtin; refine wpList_append_own_none rfl _ _ 53 rfl w.heap.size 57 i0 3 Tryd.underlying53 hi _ _ _ rfl HO0.out rfl ?_)
        rw [rounds_succ]
        have HC2 := hide (HS2.out.below HB0.out |>.rd rfl)
        go_wp2_with (at_builtin; refine wpList_append_own _ rfl _ _ 53 rfl w.heap.size 57 i0 (.agg #[.int .i64 0, .int .i64 0, .int .i64 0]) 3 24 Tryd.underlying53 hi hz0 hz1 hz2 rfl (by decide) _ _ _ rfl HO0.out ⟨b2, o2, none⟩ zs.length c2 (mkVs zs) rfl (mkVs_length zs) HC2.out (mkVs_one zs) (by unfold maxLen; omega) (by omega) hs1 ?_; intro u2 x2 ho2 hg2 _)
        have HO2 := hide ho2
        have HB2 := hide (HB0.out.grown hg2 hs1 (fun q hq => (HO0.out.lt q hq).1))
        have hs1 := HB2.out.size
        have e0 := (HB2.out.cell (p := ⟨B, 0, none⟩) hB).trans k0
        have e1 := (HB2.out.cell (p := ⟨B, 1, none⟩) hB).trans k1
        have e2 := (HB2.out.cell (p := ⟨B, 2, none⟩) hB).trans k2
        clear ho2 hg2
        go_wp2
        rw [rounds_succ]
        go_wp2
        go_ret
        exact ⟨_, rfl, by simpa [OwM, mkVs, Nat.add_assoc] using HO2.out, HB2.out⟩
    · skip
      rcases h2 with ⟨rfl, rfl⟩ | ⟨b2, o2, c2, rfl, _, _⟩
      · skip
        skip
        go_enter Tryd.func70, Tryd.ntmps70
        go_wp2
        refine wp_loop_rounds 4 ?_
        rw [rounds_succ]
        go_wp2
        rw [rounds_succ]
        go_wp2
        rw [rounds_succ]
        go_wp2
        rw [rounds_succ]
        go_wp2_with fail
        refine (growNilM (xs.length + ys.length) _ (by omega)).mono ?_
        rintro e w1 ⟨v1, rfl, ho, hb⟩
        have HO := hide ho
        have HBq := hide hb
        have hs1 := hb.size
        have e0 := (hb.cell (p := ⟨B, 0, none⟩) hB).trans k0
        have e1 := (hb.cell (p := ⟨B, 1, none⟩) hB).trans k1
        have e2 := (hb.cell (p := ⟨B, 2, none⟩) hB).trans k2
        clear ho hb
        go_wp2_with fail
        refine wp_loop_rounds 4 ?_
        rw [rounds_succ]
        have HC0 := hide (HS0.out.below HBq.out |>.rd rfl)
        go_wp2_with (at_builtin; refine wpList_append_own _ rfl _ _ 53 rfl w.heap.size 57 i0 (.agg #[.int .i64 0, .int .i64 0, .int .i64 0]) 3 24 Tryd.underlying53 hi hz0 hz1 hz2 rfl (by decide) _ _ _ rfl HO.out ⟨b0, o0, none⟩ xs.length c0 (mkVs xs) rfl (mkVs_length xs) HC0.out (mkVs_one xs) (by unfold maxLen; omega) (by omega) hs1 ?_; intro u0 x0 ho0 hg0 _)
        have HO0 := hide ho0
        have HB0 := hide (HBq.out.grown hg0 hs1 (fun q hq => (HO.out.lt q hq).1))
        have hs1 := HB0.out.size
        have e0 := (HB0.out.cell (p := ⟨B, 0, none⟩) hB).trans k0
        have e1 := (HB0.out.cell (p := ⟨B, 1, none⟩) hB).trans k1
        have e2 := (HB0.out.cell (p := ⟨B, 2, none⟩) hB).trans k2
        clear ho0 hg0
        go_wp2
        rw [rounds_succ]
        have HC1 := hide (HS1.out.below HB0.out |>.rd rfl)
        go_wp2_with (at_builtin; refine wpList_append_own _ rfl _ _ 53 rfl w.heap.size 57 i0 (.agg #[.int .i64 0, .int .i64 0, .int .i64 0]) 3 24 Tryd.underlying53 hi hz0 hz1 hz2 rfl (by decide) _ _ _ rfl HO0.out ⟨b1, o1, none⟩ ys.length c1 (mkVs ys) rfl (mkVs_length ys) HC1.out (mkVs_one ys) (by unfold maxLen; omega) (by omega) hs1 ?_; intro u1 x1 ho1 hg1 _)
        have HO1 := hide ho1
        have HB1 := hide (HB0.out.grown hg1 hs1 (fun q hq => (HO0.out.lt q hq).1))
        have hs1 := HB1.out.size
        have e0 := (HB1.out.cell (p := ⟨B, 0, none⟩) hB).trans k0
        have e1 := (HB1.out.cell (p := ⟨B, 1, none⟩) hB).trans k1
        have e2 := (HB1.out.cell (p := ⟨B, 2, none⟩) hB).trans k2
        clear ho1 hg1
        go_wp2
        rw [rounds_succ]
        go_wp2_with (at_builtin; refine wpList_append_own_none rfl _ _ 53 rfl w.heap.size 57 i0 3 Tryd.underlying53 hi _ _ _ rfl HO1.out rfl ?_)
        rw [rounds_succ]
        go_wp2
        go_ret
        exact ⟨_, rfl, by simpa [OwM, mkVs, Nat.add_assoc] using HO1.out, HB1.out⟩
      · skip
        skip
        go_enter Tryd.func70, Tryd.ntmps70
        go_wp2
        refine wp_loop_rounds 4 ?_
        rw [rounds_succ]
        go_wp2
        rw [rounds_succ]
        go_wp2
        rw [rounds_succ]
        go_wp2
        rw [rounds_succ]
        go_wp2_with fail
        refine (growNilM (xs.length + ys.length + zs.length) _ (by omega)).mono ?_
        rintro e w1 ⟨v1, rfl, ho, hb⟩
        have HO := hide ho
        have HBq := hide hb
        have hs1 := hb.size
        have e0 := (hb.cell (p := ⟨B, 0, none⟩) hB).trans k0
        have e1 := (hb.cell (p := ⟨B, 1, none⟩) hB).trans k1
        have e2 := (hb.cell (p := ⟨B, 2, none⟩) hB).trans k2
        clear ho hb
        go_wp2_with fail
        refine wp_loop_rounds 4 ?_
        rw [rounds_succ]
        have HC0 := hide (HS0.out.below HBq.out |>.rd rfl)
        go_wp2_with (at_builtin; refine wpList_append_own _ rfl _ _ 53 rfl w.heap.size 57 i0 (.agg #[.int .i64 0, .int .i64 0, .int .i64 0]) 3 24 Tryd.underlying53 hi hz0 hz1 hz2 rfl (by decide) _ _ _ rfl HO.out ⟨b0, o0, none⟩ xs.length c0 (mkVs xs) rfl (mkVs_length xs) HC0.out (mkVs_one xs) (by unfold maxLen; omega) (by omega) hs1 ?_; intro u0 x0 ho0 hg0 _)
        have HO0 := hide ho0
        have HB0 := hide (HBq.out.grown hg0 hs1 (fun q hq => (HO.out.lt q hq).1))
        have hs1 := HB0.out.size
        have e0 := (HB0.out.cell (p := ⟨B, 0, none⟩) hB).trans k0
        have e1 := (HB0.out.cell (p := ⟨B, 1, none⟩) hB).trans k1
        have e2 := (HB0.out.cell (p := ⟨B, 2, none⟩) hB).trans k2
        clear ho0 hg0
        go_wp2
        rw [rounds_succ]
        have HC1 := hide (HS1.out.below HB0.out |>.rd rfl)
        go_wp2_with (at_builtin; refine wpList_append_own _ rfl _ _ 53 rfl w.heap.size 57 i0 (.agg #[.int .i64 0, .int .i64 0, .int .i64 0]) 3 24 Tryd.underlying53 hi hz0 hz1 hz2 rfl (by decide) _ _ _ rfl HO0.out ⟨b1, o1, none⟩ ys.length c1 (mkVs ys) rfl (mkVs_length ys) HC1.out (mkVs_one ys) (by unfold maxLen; omega) (by omega) hs1 ?_; intro u1 x1 ho1 hg1 _)
        have HO1 := hide ho1
        have HB1 := hide (HB0.out.grown hg1 hs1 (fun q hq => (HO0.out.lt q hq).1))
        have hs1 := HB1.out.size
        have e0 := (HB1.out.cell (p := ⟨B, 0, none⟩) hB).trans k0
        have e1 := (HB1.out.cell (p := ⟨B, 1, none⟩) hB).trans k1
        have e2 := (HB1.out.cell (p := ⟨B, 2, none⟩) hB).trans k2
        clear ho1 hg1
        go_wp2
        rw [rounds_succ]
        have HC2 := hide (HS2.out.below HB1.out |>.rd rfl)
        go_wp2_with (at_builtin; refine wpList_append_own _ rfl _ _ 53 rfl w.heap.size 57 i0 (.agg #[.int .i64 0, .int .i64 0, .int .i64 0]) 3 24 Tryd.underlying53 hi hz0 hz1 hz2 rfl (by decide) _ _ _ rfl HO1.out ⟨b2, o2, none⟩ zs.length c2 (mkVs zs) rfl (mkVs_length zs) HC2.out (mkVs_one zs) (by unfold maxLen; omega) (by omega) hs1 ?_; intro u2 x2 ho2 hg2 _)
        have HO2 := hide ho2
        have HB2 := hide (HB1.out.grown hg2 hs1 (fun q hq => (HO1.out.lt q hq).1))
        have hs1 := HB2.out.size
        have e0 := (HB2.out.cell (p := ⟨B, 0, none⟩) hB).trans k0
        have e1 := (HB2.out.cell (p := ⟨B, 1, none⟩) hB).trans k1
        have e2 := (HB2.out.cell (p := ⟨B, 2, none⟩) hB).trans k2
        clear ho2 hg2
        go_wp2
        rw [rounds_succ]
        go_wp2
        go_ret
        exact ⟨_, rfl, by simpa [OwM, mkVs, Nat.add_assoc] using HO2.out, HB2.out⟩

end Go.Proofs.YtdjdkgidihhkfaaDoor
