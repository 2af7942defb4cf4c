import Derived.Test.YtmpclndnjjhijaaDoorProg
import Derived.Test.YtmpclndnjjhijaaDoorTo8
import Derived.Test.YtmpclndnjjhijaaDoorEq8
import Derived.Test.YtmpclndnjjhijaaDoorEq32
import Derived.Test.YtmpclndnjjhijaaDoorMark32
import Derived.Test.YtmpclndnjjhijaaDoorMark8
import Derived.Test.YtmpclndnjjhijaaDoorHeld32
import Derived.Test.YtmpclndnjjhijaaDoorSpecDec
import Derived.Test.YtmpclndnjjhijaaDoorImplDec
import Derived.WalkKit
namespace Go.Proofs.YtmpclndnjjhijaaDoor
open Go Go.RowKit
set_option linter.unusedVariables false

/-- Of a row that lies below: its block's number. -/
theorem owns_lt {w : World} {base : Nat} {e : TypeId} {size : Nat} {v : Value} {n : Nat} {xs : List Value} (h : w.ownsRow base e size v n xs) {k : Nat} (hk : v.ownBlock = some k) : base ≤ k ∧ k < w.heap.size := h.lt k hk

theorem eq8' (xs : List Int) (v u : Value) (w : World) (h1 : Rd .u8 w v xs) (h2 : Rd .u8 w u xs) (hn : xs.length ≤ 1099511627776) :
    Calls Tryd.prog 15 #[v, u] w fun e w' => e = .returned (.bool true) ∧ Below w.heap.size w w' :=
  (eq8 xs v u w h1 h2 hn).mono fun e w' ⟨he, n, hw⟩ => ⟨he, by subst hw; exact ⟨rfl, rfl, rfl, Nat.le_refl _, fun _ _ => rfl⟩⟩
theorem eq32' (xs : List Int) (v u : Value) (w : World) (h1 : Rd .i32 w v xs) (h2 : Rd .i32 w u xs) (hn : xs.length ≤ 1099511627776) :
    Calls Tryd.prog 9 #[v, u] w fun e w' => e = .returned (.bool true) ∧ Below w.heap.size w w' :=
  (eq32 xs v u w h1 h2 hn).mono fun e w' ⟨he, n, hw⟩ => ⟨he, by subst hw; exact ⟨rfl, rfl, rfl, Nat.le_refl _, fun _ _ => rfl⟩⟩

set_option maxHeartbeats 1000000 in
theorem decLaw (zs : List Int) (v : Value) (w : World) (h : Rd .u8 w v zs) (hn : zs.length ≤ 1048576) (hr : bytes zs) (hT : Tab w) :
    Calls Tryd.prog 4 #[v] w fun e w' => e = .returned (.bool true) ∧ Below w.heap.size w w' := by
  have hv : ∃ ao cap, v = .slice ao zs.length cap := by
    rcases h with ⟨ao, cap, rfl, rfl⟩ | ⟨b, off, cap, rfl, _⟩
    · exact ⟨_, _, rfl⟩
    · exact ⟨_, _, rfl⟩
  obtain ⟨ao, cap, rfl⟩ := hv
  have hle := decs_length zs
  have hgt : ¬ (1048576 : Int) < (zs.length : Int) := by omega
  have H := hide h
  have HR := hide hr
  have HT := hide hT
  clear h hr hT
  go_enter Tryd.func4, Tryd.ntmps4
  go_wp2_with fail
  -- w0 := spec.EncodeText(toInt32S(aR))
  refine (to8 zs _ _ H.out (by omega)).mono ?_
  rintro e w1 ⟨rfl, ho1, hb1⟩
  have R1 := hide (Rd.of_owns ho1)
  have B1 := hide hb1
  have s1 := hb1.size
  clear ho1 hb1
  go_wp2_with fail
  refine (specDec zs _ _ R1.out HR.out hn).mono ?_
  rintro e w2 ⟨v0, rfl, ho, hb⟩
  have OW2 := hide (owns_base ho s1)
  have B2 := hide (B1.out.trans (hb.mono s1))
  have s2 := B2.out.size
  clear ho hb B1 R1 s1
  -- x0 := toInt32S(aR)
  go_wp2_with fail
  refine (to8 zs _ _ (H.out.below B2.out) (by omega)).mono ?_
  rintro e w3 ⟨rfl, ho, hb⟩
  have OX3 := hide ho
  have OW3 := hide (owns_below OW2.out hb (Nat.le_refl _))
  have LW := hide (fun k hk => (owns_lt OW2.out (k := k) hk).2)
  have LX := hide ((owns_lt ho (k := w2.heap.size) rfl).2)
  have B3 := hide (B2.out.trans (hb.mono s2))
  have s3 := B3.out.size
  clear ho hb B2 OW2
  -- g0 := impl.EncodeText(x0)
  go_wp2_with fail
  refine (implDec zs _ _ (Rd.of_owns OX3.out) HR.out (tab_below HT.out B3.out (Nat.le_refl _)) hn).mono ?_
  rintro e w4 ⟨g0, rfl, ho, hb⟩
  have OG4 := hide ho
  have LG := hide (fun k hk => (owns_lt ho (k := k) hk).1)
  have OX4 := hide (owns_below OX3.out hb (Nat.le_refl _))
  have OW4 := hide (owns_below OW3.out hb (Nat.le_refl _))
  have B4 := hide (B3.out.trans (hb.mono s3))
  have s4 := B4.out.size
  clear ho hb B3 OW3 OX3
  -- eqByteS(g0, w0)
  go_wp2_with fail
  refine (eq32' (decs zs) _ _ _ (Rd.of_owns OG4.out) (Rd.of_owns OW4.out) (by omega)).mono ?_
  rintro e w5 ⟨rfl, hb⟩
  have OG5 := hide (owns_below OG4.out hb (Nat.le_refl _))
  have OX5 := hide (owns_below OX4.out hb (Nat.le_refl _))
  have OW5 := hide (owns_below OW4.out hb (Nat.le_refl _))
  have B5 := hide (B4.out.trans (hb.mono s4))
  have s5 := B5.out.size
  clear hb B4 OW4 OX4 OG4
  -- eqInt32S(x0, toInt32S(aR))
  go_wp2_with fail
  refine (to8 zs _ _ (H.out.below B5.out) (by omega)).mono ?_
  rintro e w6 ⟨rfl, ho, hb⟩
  have OT6 := hide ho
  have OG6 := hide (owns_below OG5.out hb (Nat.le_refl _))
  have OX6 := hide (owns_below OX5.out hb (Nat.le_refl _))
  have OW6 := hide (owns_below OW5.out hb (Nat.le_refl _))
  have B6 := hide (B5.out.trans (hb.mono s5))
  have s6 := B6.out.size
  clear ho hb B5 OW5 OX5 OG5
  go_wp2_with fail
  refine (eq8' zs _ _ _ (Rd.of_owns OX6.out) (Rd.of_owns OT6.out) (by omega)).mono ?_
  rintro e w7 ⟨rfl, hb⟩
  have OG7 := hide (owns_below OG6.out hb (Nat.le_refl _))
  have OX7 := hide (owns_below OX6.out hb (Nat.le_refl _))
  have OW7 := hide (owns_below OW6.out hb (Nat.le_refl _))
  have B7 := hide (B6.out.trans (hb.mono s6))
  have s7 := B7.out.size
  clear hb B6 OW6 OX6 OG6 OT6
  -- k = markInt32S(x0, 1)
  go_wp2_with fail
  refine (mark8 zs _ _ _ 1 _ OX7.out (by omega) (by omega) (by omega)).mono ?_
  rintro e w8 ⟨rfl, ho, hg⟩
  have OG8 := hide (OG7.out.kept hg (by
    cases hgb : g0.ownBlock with
    | none => exact .inl rfl
    | some k => right; intro e; have h1 := LG.out k hgb; have h2 := LX.out; simp only [Value.ownBlock, Option.some.injEq] at e; omega))
  have OW8 := hide (OW7.out.kept hg (by
    cases hgb : v0.ownBlock with
    | none => exact .inl rfl
    | some k => right; intro e; have h1 := LW.out k hgb; simp only [Value.ownBlock, Option.some.injEq] at e; omega))
  have B8 := hide (B7.out.grown hg s7 (by intro k hk; simp only [Value.ownBlock, Option.some.injEq] at hk; omega))
  have s8 := B8.out.size
  have hk0 : ¬ (1 + (zs.length : Int)) < 0 := by omega
  clear ho hg B7 OW7 OX7 OG7
  -- k < 0 || !eqByteS(g0, w0)
  go_wp2_with fail
  refine (eq32' (decs zs) _ _ _ (Rd.of_owns OG8.out) (Rd.of_owns OW8.out) (by omega)).mono ?_
  rintro e w9 ⟨rfl, hb⟩
  have OG9 := hide (owns_below OG8.out hb (Nat.le_refl _))
  have OW9 := hide (owns_below OW8.out hb (Nat.le_refl _))
  have B9 := hide (B8.out.trans (hb.mono s8))
  have s9 := B9.out.size
  clear hb B8 OW8 OG8
  -- m = markByteS(g0, 1)
  go_wp2_with fail
  refine (mark32 (decs zs) _ _ _ 1 _ OG9.out (by omega) (by omega) (by omega)).mono ?_
  rintro e w10 ⟨rfl, ho, hg⟩
  have RG := hide (Rd.of_owns ho)
  have OW10 := hide (OW9.out.kept hg (by
    cases hgb : v0.ownBlock with
    | none => exact .inl rfl
    | some k => right; intro e; have h1 := LW.out k hgb; have h3 := LX.out; have h2 := LG.out k e.symm; omega))
  have B10 := hide (B9.out.grown hg s9 (by intro k hk; have h2 := LG.out k hk; omega))
  have s10 := B10.out.size
  have hq0 : ¬ (1 + ((decs zs).length : Int)) < 0 := by omega
  have hq1 : ((1 + ((decs zs).length : Int)) != (1 + ((decs zs).length : Int))) = false := by simp
  clear ho hg B9 OW9 OG9
  -- q = heldByteS(g0, 1)
  go_wp2_with fail
  refine (held32 _ _ 1 _ RG.out (by omega) (by omega) (by omega)).mono ?_
  rintro e w11 ⟨rfl, rfl⟩
  -- h0 := impl.EncodeText(toInt32S(aR))
  go_wp2_with fail
  refine (to8 zs _ _ (H.out.below B10.out) (by omega)).mono ?_
  rintro e w12 ⟨rfl, ho, hb⟩
  have R12 := hide (Rd.of_owns ho)
  have OW12 := hide (owns_below OW10.out hb (Nat.le_refl _))
  have B12 := hide (B10.out.trans (hb.mono s10))
  have s12 := B12.out.size
  clear ho hb B10 OW10 RG
  go_wp2_with fail
  refine (implDec zs _ _ R12.out HR.out (tab_below HT.out B12.out (Nat.le_refl _)) hn).mono ?_
  rintro e w13 ⟨h0, rfl, ho, hb⟩
  have OH13 := hide ho
  have OW13 := hide (owns_below OW12.out hb (Nat.le_refl _))
  have B13 := hide (B12.out.trans (hb.mono s12))
  have s13 := B13.out.size
  clear ho hb B12 OW12 R12
  go_wp2_with fail
  refine (eq32' (decs zs) _ _ _ (Rd.of_owns OH13.out) (Rd.of_owns OW13.out) (by omega)).mono ?_
  rintro e w14 ⟨rfl, hb⟩
  have B14 := hide (B13.out.trans (hb.mono s13))
  clear hb B13 OW13 OH13
  go_wp2
  go_ret
  exact ⟨rfl, B14.out⟩

set_option maxHeartbeats 400000 in
/-- More than 2^20 bytes are passed by. -/
theorem decLawLong (ao : Option Addr) (len cap : Nat) (w : World) (hn : 1048576 < len) (hm : len ≤ maxLen) :
    Calls Tryd.prog 4 #[.slice ao len cap] w fun e w' => e = .returned (.bool true) ∧ Below w.heap.size w w' := by
  unfold maxLen at hm
  have hgt : (1048576 : Int) < (len : Int) := by omega
  go_enter Tryd.func4, Tryd.ntmps4
  go_wp2
  go_ret
  exact ⟨rfl, Below.refl _ _⟩

end Go.Proofs.YtmpclndnjjhijaaDoor
