import Derived.Test.YtmpclndnjjhijaaRows
import Derived.Test.YtmpclndnjjhijaaTo32
import Derived.Test.YtmpclndnjjhijaaEq8
import Derived.Test.YtmpclndnjjhijaaEq32
import Derived.Test.YtmpclndnjjhijaaMark32
import Derived.Test.YtmpclndnjjhijaaMark8
import Derived.Test.YtmpclndnjjhijaaHeld8
import Derived.Test.YtmpclndnjjhijaaSpecEnc
import Derived.Test.YtmpclndnjjhijaaImplEnc
import Derived.WalkKit
import Derived.ProofKit
import Derived.OpenShut
import Derived.ShutString
import Derived.ChangeOld
import Derived.Below
namespace Go.Proofs.Ytmpclndnjjhijaa
open Go Go.RowKit Go.ChangeShapes Go.WideShapes Go.ChangeAt
open Go.ChangeMaps (open_string shut_string)
set_option linter.unusedVariables false

theorem own : ownKnob Try.prog.godebug = none := by kernel_rfl
theorem laidOut : laidOutB Try.prog = true := by kernel_rfl

/-- A slice of integers that came in. -/
def IsRow (k : IntKind) (w : World) (a : Option Addr) (len cap : Nat) (zs : List Int) : Prop :=
  (a = none ∧ len = 0 ∧ cap = 0 ∧ zs = []) ∨
  ∃ x, a = some x ∧ len ≤ cap ∧ cap ≤ maxLen ∧ zs.length = cap ∧ (∀ i, i < zs.length → w.cell? (x.add i) = some (.int k (zs.getD i 0))) ∧ ∀ n ∈ zs, (Lit.int k n).wf = true

/-- Of a row that lies below: its block's number. -/
theorem owns_lt {w : World} {base : Nat} {e : TypeId} {size : Nat} {v : Value} {n : Nat} {xs : List Value} (h : w.ownsRow base e size v n xs) {k : Nat} (hk : v.ownBlock = some k) : base ≤ k ∧ k < w.heap.size := h.lt k hk

theorem eq8' (xs : List Int) (v u : Value) (w : World) (h1 : Rd .u8 w v xs) (h2 : Rd .u8 w u xs) (hn : xs.length ≤ 1099511627776) :
    Calls Try.prog 7 #[v, u] w fun e w' => e = .returned (.bool true) ∧ Below w.heap.size w w' :=
  (eq8 xs v u w h1 h2 hn).mono fun e w' ⟨he, n, hw⟩ => ⟨he, by subst hw; exact ⟨rfl, rfl, rfl, Nat.le_refl _, fun _ _ => rfl⟩⟩
theorem eq32' (xs : List Int) (v u : Value) (w : World) (h1 : Rd .i32 w v xs) (h2 : Rd .i32 w u xs) (hn : xs.length ≤ 1099511627776) :
    Calls Try.prog 8 #[v, u] w fun e w' => e = .returned (.bool true) ∧ Below w.heap.size w w' :=
  (eq32 xs v u w h1 h2 hn).mono fun e w' ⟨he, n, hw⟩ => ⟨he, by subst hw; exact ⟨rfl, rfl, rfl, Nat.le_refl _, fun _ _ => rfl⟩⟩

set_option maxHeartbeats 1000000 in
theorem law (zs : List Int) (v : Value) (w : World) (h : Rd .i32 w v zs) (hn : zs.length ≤ 1048576) (hr : ∀ z ∈ zs, -2147483648 ≤ z ∧ z ≤ 2147483647) :
    Calls Try.prog 3 #[v] w fun e w' => e = .returned (.bool true) ∧ Below w.heap.size w w' := by
  have hv : ∃ ao cap, v = .slice ao zs.length cap := by
    rcases h with ⟨ao, cap, rfl, rfl⟩ | ⟨b, off, cap, rfl, _⟩
    · exact ⟨_, _, rfl⟩
    · exact ⟨_, _, rfl⟩
  obtain ⟨ao, cap, rfl⟩ := hv
  have hle := encs_length zs
  have hgt : ¬ (1048576 : Int) < (zs.length : Int) := by omega
  have H := hide h
  have HR := hide hr
  clear h hr
  go_enter Try.func3, Try.ntmps3
  go_wp2_with fail
  -- w0 := spec.EncodeText(toInt32S(aR))
  refine (to32 zs _ _ H.out (by omega)).mono ?_
  rintro e w1 ⟨rfl, ho1, hb1⟩
  have R1 := hide (Rd.of_owns ho1)
  have B1 := hide hb1
  have s1 := hb1.size
  clear ho1 hb1
  go_wp2_with fail
  refine (specEnc zs _ _ R1.out hn HR.out).mono ?_
  rintro e w2 ⟨v0, rfl, ho, hb⟩
  have OW2 := hide (owns_base ho s1)
  have B2 := hide (B1.out.trans (hb.mono s1))
  have s2 := B2.out.size
  clear ho hb B1 R1 s1
  -- x0 := toInt32S(aR)
  go_wp2_with fail
  refine (to32 zs _ _ (H.out.below B2.out) (by omega)).mono ?_
  rintro e w3 ⟨rfl, ho, hb⟩
  have OX3 := hide ho
  have OW3 := hide (owns_below OW2.out hb (Nat.le_refl _))
  have LW := hide (fun k hk => (owns_lt OW2.out (k := k) hk).2)
  have LX := hide ((owns_lt ho (k := w2.heap.size) rfl).2)
  have B3 := hide (B2.out.trans (hb.mono s2))
  have s3 := B3.out.size
  clear ho hb B2 OW2
  -- g0 := impl.EncodeText(x0)
  go_wp2_with fail
  refine (implEnc zs _ _ (Rd.of_owns OX3.out) hn HR.out).mono ?_
  rintro e w4 ⟨g0, rfl, ho, hb⟩
  have OG4 := hide ho
  have LG := hide (fun k hk => (owns_lt ho (k := k) hk).1)
  have OX4 := hide (owns_below OX3.out hb (Nat.le_refl _))
  have OW4 := hide (owns_below OW3.out hb (Nat.le_refl _))
  have B4 := hide (B3.out.trans (hb.mono s3))
  have s4 := B4.out.size
  clear ho hb B3 OW3 OX3
  -- eqByteS(g0, w0)
  go_wp2_with fail
  refine (eq8' (encs zs) _ _ _ (Rd.of_owns OG4.out) (Rd.of_owns OW4.out) (by omega)).mono ?_
  rintro e w5 ⟨rfl, hb⟩
  have OG5 := hide (owns_below OG4.out hb (Nat.le_refl _))
  have OX5 := hide (owns_below OX4.out hb (Nat.le_refl _))
  have OW5 := hide (owns_below OW4.out hb (Nat.le_refl _))
  have B5 := hide (B4.out.trans (hb.mono s4))
  have s5 := B5.out.size
  clear hb B4 OW4 OX4 OG4
  -- eqInt32S(x0, toInt32S(aR))
  go_wp2_with fail
  refine (to32 zs _ _ (H.out.below B5.out) (by omega)).mono ?_
  rintro e w6 ⟨rfl, ho, hb⟩
  have OT6 := hide ho
  have OG6 := hide (owns_below OG5.out hb (Nat.le_refl _))
  have OX6 := hide (owns_below OX5.out hb (Nat.le_refl _))
  have OW6 := hide (owns_below OW5.out hb (Nat.le_refl _))
  have B6 := hide (B5.out.trans (hb.mono s5))
  have s6 := B6.out.size
  clear ho hb B5 OW5 OX5 OG5
  go_wp2_with fail
  refine (eq32' zs _ _ _ (Rd.of_owns OX6.out) (Rd.of_owns OT6.out) (by omega)).mono ?_
  rintro e w7 ⟨rfl, hb⟩
  have OG7 := hide (owns_below OG6.out hb (Nat.le_refl _))
  have OX7 := hide (owns_below OX6.out hb (Nat.le_refl _))
  have OW7 := hide (owns_below OW6.out hb (Nat.le_refl _))
  have B7 := hide (B6.out.trans (hb.mono s6))
  have s7 := B7.out.size
  clear hb B6 OW6 OX6 OG6 OT6
  -- k = markInt32S(x0, 1)
  go_wp2_with fail
  refine (mark32 zs _ _ _ 1 _ OX7.out (by omega) (by omega) (by omega)).mono ?_
  rintro e w8 ⟨rfl, ho, hg⟩
  have OG8 := hide (OG7.out.kept hg (by
    cases hgb : g0.ownBlock with
    | none => exact .inl rfl
    | some k => right; intro e; have h1 := LG.out k hgb; have h2 := LX.out; simp only [Value.ownBlock, Option.some.injEq] at e; omega))
  have OW8 := hide (OW7.out.kept hg (by
    cases hgb : v0.ownBlock with
    | none => exact .inl rfl
    | some k => right; intro e; have h1 := LW.out k hgb; simp only [Value.ownBlock, Option.some.injEq] at e; omega))
  have B8 := hide (B7.out.grown hg s7 (by intro k hk; simp only [Value.ownBlock, Option.some.injEq] at hk; omega))
  have s8 := B8.out.size
  have hk0 : ¬ (1 + (zs.length : Int)) < 0 := by omega
  clear ho hg B7 OW7 OX7 OG7
  -- k < 0 || !eqByteS(g0, w0)
  go_wp2_with fail
  refine (eq8' (encs zs) _ _ _ (Rd.of_owns OG8.out) (Rd.of_owns OW8.out) (by omega)).mono ?_
  rintro e w9 ⟨rfl, hb⟩
  have OG9 := hide (owns_below OG8.out hb (Nat.le_refl _))
  have OW9 := hide (owns_below OW8.out hb (Nat.le_refl _))
  have B9 := hide (B8.out.trans (hb.mono s8))
  have s9 := B9.out.size
  clear hb B8 OW8 OG8
  -- m = markByteS(g0, 1)
  go_wp2_with fail
  refine (mark8 (encs zs) _ _ _ 1 _ OG9.out (by omega) (by omega) (by omega)).mono ?_
  rintro e w10 ⟨rfl, ho, hg⟩
  have RG := hide (Rd.of_owns ho)
  have OW10 := hide (OW9.out.kept hg (by
    cases hgb : v0.ownBlock with
    | none => exact .inl rfl
    | some k => right; intro e; have h1 := LW.out k hgb; have h3 := LX.out; have h2 := LG.out k e.symm; omega))
  have B10 := hide (B9.out.grown hg s9 (by intro k hk; have h2 := LG.out k hk; omega))
  have s10 := B10.out.size
  have hq0 : ¬ (1 + ((encs zs).length : Int)) < 0 := by omega
  have hq1 : ((1 + ((encs zs).length : Int)) != (1 + ((encs zs).length : Int))) = false := by simp
  clear ho hg B9 OW9 OG9
  -- q = heldByteS(g0, 1)
  go_wp2_with fail
  refine (held8 _ _ 1 _ RG.out (by omega) (by omega) (by omega)).mono ?_
  rintro e w11 ⟨rfl, rfl⟩
  -- h0 := impl.EncodeText(toInt32S(aR))
  go_wp2_with fail
  refine (to32 zs _ _ (H.out.below B10.out) (by omega)).mono ?_
  rintro e w12 ⟨rfl, ho, hb⟩
  have R12 := hide (Rd.of_owns ho)
  have OW12 := hide (owns_below OW10.out hb (Nat.le_refl _))
  have B12 := hide (B10.out.trans (hb.mono s10))
  have s12 := B12.out.size
  clear ho hb B10 OW10 RG
  go_wp2_with fail
  refine (implEnc zs _ _ R12.out hn HR.out).mono ?_
  rintro e w13 ⟨h0, rfl, ho, hb⟩
  have OH13 := hide ho
  have OW13 := hide (owns_below OW12.out hb (Nat.le_refl _))
  have B13 := hide (B12.out.trans (hb.mono s12))
  have s13 := B13.out.size
  clear ho hb B12 OW12 R12
  go_wp2_with fail
  refine (eq8' (encs zs) _ _ _ (Rd.of_owns OH13.out) (Rd.of_owns OW13.out) (by omega)).mono ?_
  rintro e w14 ⟨rfl, hb⟩
  have B14 := hide (B13.out.trans (hb.mono s13))
  clear hb B13 OW13 OH13
  go_wp2
  go_ret
  exact ⟨rfl, B14.out⟩

set_option maxHeartbeats 400000 in
/-- A text of more than 2^20 runes is passed by. -/
theorem lawLong (ao : Option Addr) (len cap : Nat) (w : World) (hn : 1048576 < len) (hm : len ≤ maxLen) :
    Calls Try.prog 3 #[.slice ao len cap] w fun e w' => e = .returned (.bool true) ∧ Below w.heap.size w w' := by
  unfold maxLen at hm
  have hgt : (1048576 : Int) < (len : Int) := by omega
  go_enter Try.func3, Try.ntmps3
  go_wp2
  go_ret
  exact ⟨rfl, Below.refl _ _⟩

theorem walk (a0 : Option Addr) (len0 cap0 : Nat) (z0 : List Int) (w : World) (w0 : IsRow .i32 w a0 len0 cap0 z0) :
    Calls Try.prog 3 #[.slice a0 len0 cap0] w fun e w' => e = .returned (.bool true) ∧ Below w.heap.size w w' := by
  rcases w0 with ⟨rfl, rfl, rfl, rfl⟩ | ⟨x, rfl, hl, hm, hz, hcell, hwz⟩
  · exact law [] _ w (.inl ⟨none, 0, rfl, rfl⟩) (by simp) (by simp)
  · by_cases hn : 1048576 < len0
    · exact lawLong _ _ _ w hn (by omega)
    · refine law (z0.take len0) _ w ?_ (by rw [List.length_take]; omega) ?_
      · exact Rd.of_row hcell (by omega)
      · intro z hzm
        have := hwz z (List.mem_of_mem_take hzm)
        exact bounds_i32 this

set_option maxRecDepth 100000 in
theorem lifted (os : Os) (started : os.Started) (H : Type) (enc : TypeId × Value → H) :
    ReturnsInHanded {} Try.checked os 3 .any (Rows.fnExactEncodeTextSpec.pre6 enc Try.prog Try.f3 Rows.fnExactEncodeTextRow.domain false) (Rows.fnExactEncodeTextSpec.post enc Try.prog Try.f3 false true false false) := by
  refine returnsInHanded_of_change (C := Try.checked) own started (by kernel_rfl) Try.func3
    (ChangeSpec.witness6 (enc := enc) (C := Try.checked) false ⟨#[], #[.slice none 0 0], []⟩ 8 (by kernel_rfl) (by kernel_rfl) (by kernel_rfl) (by kernel_rfl)) ?_
  intro W base args ds gs before hval0 hW hcnd _
  have hval : ∀ (j : Nat) t v, Try.f3.params[j]? = some t → args[j]? = some v → Value.okWide Try.prog W .any base t v := hval0
  have hW' := hW
  obtain ⟨p, q, hA0, hV, rfl, hfz, hnd⟩ := hW
  have hA : DataW.TrodAll enc Try.prog W 0 (fun _ => true) true Try.f3.params.toList args.toList ds p := hA0
  rw [Try.params3] at hA hval
  obtain ⟨v0, vs0, d0, ds0, p0, q0, hargs, rfl, rfl, h0, r0⟩ := trodAll_cons hA
  obtain ⟨rfl, rfl, rfl⟩ := trodAll_nil r0
  obtain rfl : args = #[v0] := by cases args; simp_all
  obtain ⟨rfl, rfl⟩ := trodVars_none hV
  obtain ⟨a0, len0, cap0, rfl⟩ := okWide_slice Try.underlying22 (hval 0 22 v0 rfl rfl)
  have k0 := h0
  have lt0 : ∀ x ∈ p0, x.block < W.heap.size := by obtain ⟨m, hm⟩ := k0; exact DataW.trod_lt m _ _ _ hm
  obtain ⟨z0, w0⟩ : ∃ zs, IsRow .i32 W a0 len0 cap0 zs := by
    obtain ⟨fuel, hf⟩ := h0
    rcases open_ints Try.underlying22 Try.underlying21 (by kernel_rfl) hf with ⟨hcs, _⟩ | ⟨x, l, c, zs, hcs, _, hl, hm, hz, _, hcell, hwz⟩
    · simp [Value.cells] at hcs
      obtain ⟨rfl, rfl, rfl⟩ := hcs
      exact ⟨[], .inl ⟨rfl, rfl, rfl, rfl⟩⟩
    · simp [Value.cells] at hcs
      obtain ⟨rfl, rfl, rfl⟩ := hcs
      exact ⟨zs, .inr ⟨_, rfl, hl, hm, by simpa using hz, hcell, hwz⟩⟩
  clear hA0 hval0
  refine (walk a0 len0 cap0 z0 W w0).mono fun e W' ⟨he, bel⟩ => ?_
  subst he
  exact ⟨_, rfl, _, _, _, [], _, [], hW', trodAll_mk1 (shut_bool Try.underlying4 _), (trodAll_cons_mk (Below.trod laidOut (by kernel_rfl) (of_decide_eq_true (by kernel_rfl)) k0 bel lt0) trodAll_mk0), rfl, bel.frame _, fun h => by cases h⟩

theorem over : Rows.fnExactEncodeTextRow.holds Try.pinned (OpenSpec.ofChange Rows.fnExactEncodeTextSpec) :=
  OpenClaim.holds_of_wide 3 Try.f3 rfl rfl rfl rfl rfl rfl rfl ⟨rfl, rfl, rfl, rfl, rfl⟩ rfl rfl rfl rfl rfl (by kernel_rfl) Try.func3 (by kernel_rfl)
    (of_decide_eq_true (by kernel_rfl)) (by unfold Func.isWrapper; first | (rw [if_pos (by decide +kernel)]; kernel_rfl) | (rw [if_neg (by decide +kernel)]; exact ⟨rfl, rfl⟩))
    (fun os started H enc _ => lifted os started H enc)

theorem encodeText_holds : Rows.FnExactEncodeTextSaid := over
#print axioms encodeText_holds
end Go.Proofs.Ytmpclndnjjhijaa
