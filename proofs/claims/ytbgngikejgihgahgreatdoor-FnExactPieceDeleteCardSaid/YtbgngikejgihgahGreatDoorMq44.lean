import Derived.Test.YtbgngikejgihgahGreatDoorMq15
import Derived.Test.YtbgngikejgihgahGreatDoorMq17
import Derived.Test.YtbgngikejgihgahGreatDoorMq42
import Derived.Test.YtbgngikejgihgahGreatDoorMq43
namespace Go.Proofs.YtbgngikejgihgahGreatDoor
open Go Go.RowKit
set_option linter.unusedVariables false

/-- A block of two cells. -/
def T2 (w : World) (b : Nat) (x y : Value) (t : TypeId) : Prop := w.heap[b]? = some (.cells #[x, y] t (0, 0))
theorem T2.c {w : World} {b : Nat} {x y : Value} {t : TypeId} (h : T2 w b x y t) : w.cell? ⟨b, 0, none⟩ = some x ∧ w.cell? ⟨b, 1, none⟩ = some y := by
  refine ⟨?_, ?_⟩ <;> rw [cell_of_row w b _ _ _ _ h] <;> rfl
theorem T2.fz {w : World} {b : Nat} {x y : Value} {t : TypeId} (h : T2 w b x y t) (j : Nat) : w.frozen? ⟨b, j, none⟩ = false := frozen_of_row w b j _ _ h
theorem T2.lt {w : World} {b : Nat} {x y : Value} {t : TypeId} (h : T2 w b x y t) : b < w.heap.size := (Array.getElem?_eq_some_iff.1 h).1
theorem T2.below {B : Nat} {w w' : World} {b : Nat} {x y : Value} {t : TypeId} (h : T2 w b x y t) (hb : Below B w w') (hB : b < B) : T2 w' b x y t := (hb.block b hB).trans h
theorem T2.new (w : World) (x y : Value) (t : TypeId) : T2 (w.alloc (.cells #[x, y] t)) w.heap.size x y t := heap_alloc_new w (.cells #[x, y] t)
theorem T2.set0 {w : World} {b : Nat} {x y : Value} {t : TypeId} (h : T2 w b x y t) (v : Value) : T2 (w.setCell ⟨b, 0, none⟩ v) b v y t := by
  unfold T2 at *; rw [heap_setCell_same w b 0 _ _ _ h]; rfl
set_option maxHeartbeats 1000000 in
theorem sz32L (ao : Option Addr) (len cap : Nat) (k : Int) (w : World) (hn : len ≤ maxLen) (hk : 0 ≤ k ∧ k ≤ 1048576) :
    Calls Tryz.prog 55 #[.slice ao len cap, .int .i64 k] w fun e w' => e = .returned (.int .i64 (if k - len < 0 then -1 else k - len)) ∧ w' = w := by
  unfold maxLen at hn
  by_cases h : k - (len : Int) < 0
  · rw [if_pos h]
    go_enter Tryz.func55, Tryz.ntmps55
    go_wp2
    go_ret
    exact ⟨rfl, rfl⟩
  · rw [if_neg h]
    go_enter Tryz.func55, Tryz.ntmps55
    go_wp2
    go_ret
    exact ⟨rfl, rfl⟩

set_option maxHeartbeats 1000000 in
set_option maxRecDepth 100000 in
theorem szPBL (ao ao' : Option Addr) (len cap len' cap' : Nat) (w : World) (hn : len ≤ maxLen) (hn' : len' ≤ maxLen) :
    Calls Tryz.prog 9 #[.agg #[.slice ao len cap, .slice ao' len' cap'], .int .i64 1048576] w fun e w' => e = .returned (.int .i64 (if 1048576 < len + len' then -1 else 1048576 - (len : Int) - (len' : Int))) ∧ Below w.heap.size w w' := by
  have HB0 := hide ((Below.refl w.heap.size w).alloc (Nat.le_refl _) (.cells #[.slice ao len cap, .slice ao' len' cap'] 27))
  have K0 := hide (T2.new w (.slice ao len cap) (.slice ao' len' cap') 27)
  have hs0 : (w.alloc (.cells #[.slice ao len cap, .slice ao' len' cap'] 27)).heap.size = w.heap.size + 1 := by simp
  have HS := hide (fun w => sz32L ao len cap 1048576 w hn (by omega))
  by_cases h1 : 1048576 < len
  · rw [if_pos (by omega)] at HS
    rw [if_pos (by omega)]
    go_enter Tryz.func9, Tryz.ntmps9
    go_wp2_with fail
    generalize w.alloc (.cells #[.slice ao len cap, .slice ao' len' cap'] 27) = w0 at *
    refine (HS.out _).mono ?_
    rintro e wx ⟨rfl, hwx⟩
    subst hwx
    go_wp2
    go_ret
    exact ⟨rfl, HB0.out⟩
  · rw [if_neg (by omega)] at HS
    have HS2 := hide (fun w => szTreeL ao' len' cap' (1048576 - (len : Int)) w hn' (by omega))
    have hnn : ¬ (1048576 - (len : Int)) < 0 := by omega
    by_cases h2 : 1048576 < len + len'
    · rw [if_pos (by omega)] at HS2
      rw [if_pos h2]
      go_enter Tryz.func9, Tryz.ntmps9
      go_wp2_with fail
      generalize w.alloc (.cells #[.slice ao len cap, .slice ao' len' cap'] 27) = w0 at *
      refine (HS.out _).mono ?_
      rintro e wx ⟨rfl, hwx⟩
      subst hwx
      have c1 := K0.out.c.2
      have hl := K0.out.lt
      go_wp2_with fail
      refine (HS2.out _).mono ?_
      rintro e w2 ⟨rfl, hb2⟩
      have HB2 := hide (HB0.out.trans (hb2.mono (by omega)))
      clear hb2
      go_wp2
      go_ret
      exact ⟨rfl, HB2.out⟩
    · rw [if_neg (by omega)] at HS2
      rw [if_neg h2]
      have hn2 : ¬ (1048576 - (len : Int) - (len' : Int)) < 0 := by omega
      go_enter Tryz.func9, Tryz.ntmps9
      go_wp2_with fail
      generalize w.alloc (.cells #[.slice ao len cap, .slice ao' len' cap'] 27) = w0 at *
      refine (HS.out _).mono ?_
      rintro e wx ⟨rfl, hwx⟩
      subst hwx
      have c1 := K0.out.c.2
      have hl := K0.out.lt
      go_wp2_with fail
      refine (HS2.out _).mono ?_
      rintro e w2 ⟨rfl, hb2⟩
      have HB2 := hide (HB0.out.trans (hb2.mono (by omega)))
      clear hb2
      go_wp2
      go_ret
      exact ⟨rfl, HB2.out⟩

set_option maxHeartbeats 1000000 in
set_option maxRecDepth 100000 in
theorem toPBL (B : Nat) (zs : List Int) (xs : List It) (v v' : Value) (w : World) (h : Rd .i32 w v zs) (h' : RdI B w v' xs) (hB : B ≤ w.heap.size) (hn : zs.length ≤ 1048576) (hn' : xs.length ≤ 1048576) :
    Calls Tryz.prog 11 #[.agg #[v, v']] w fun e w' => ∃ g g', e = .returned (.agg #[.slice (some ⟨g, 0, none⟩) zs.length zs.length, .slice (some ⟨g', 0, none⟩) xs.length xs.length]) ∧
      own32 w' w.heap.size (.slice (some ⟨g, 0, none⟩) zs.length zs.length) zs ∧ OwI w' w.heap.size (.slice (some ⟨g', 0, none⟩) xs.length xs.length) xs ∧ Below w.heap.size w w' := by
  obtain ⟨ao, cap, rfl⟩ : ∃ ao cap, v = .slice ao zs.length cap := by
    rcases h with ⟨ao, cap, rfl, rfl⟩ | ⟨b, off, cap, rfl, _⟩
    · exact ⟨_, _, rfl⟩
    · exact ⟨_, _, rfl⟩
  obtain ⟨ao', cap', rfl⟩ := h'.val
  have HB0 := hide ((((Below.refl w.heap.size w).alloc (Nat.le_refl _) (.cells #[.slice ao zs.length cap, .slice ao' xs.length cap'] 27)).alloc (by simp) (.cells #[.slice none 0 0, .slice none 0 0] 33)).alloc (by simp; omega) (.cells #[.slice none 0 0, .slice none 0 0] 33))
  have k0 : T2 (((w.alloc (.cells #[.slice ao zs.length cap, .slice ao' xs.length cap'] 27)).alloc (.cells #[.slice none 0 0, .slice none 0 0] 33)).alloc (.cells #[.slice none 0 0, .slice none 0 0] 33)) w.heap.size (.slice ao zs.length cap) (.slice ao' xs.length cap') 27 := by
    refine (Below.heap_alloc _ _ _ (by simp; omega)).trans ((Below.heap_alloc _ _ _ (by simp)).trans (heap_alloc_new _ _))
  have k1 : T2 (((w.alloc (.cells #[.slice ao zs.length cap, .slice ao' xs.length cap'] 27)).alloc (.cells #[.slice none 0 0, .slice none 0 0] 33)).alloc (.cells #[.slice none 0 0, .slice none 0 0] 33)) (w.heap.size + 1) (.slice none 0 0) (.slice none 0 0) 33 := by
    refine (Below.heap_alloc _ _ _ (by simp)).trans ?_
    have := heap_alloc_new (w.alloc (.cells #[.slice ao zs.length cap, .slice ao' xs.length cap'] 27)) (.cells #[.slice none 0 0, .slice none 0 0] 33)
    simpa using this
  have k2 : T2 (((w.alloc (.cells #[.slice ao zs.length cap, .slice ao' xs.length cap'] 27)).alloc (.cells #[.slice none 0 0, .slice none 0 0] 33)).alloc (.cells #[.slice none 0 0, .slice none 0 0] 33)) (w.heap.size + 1 + 1) (.slice none 0 0) (.slice none 0 0) 33 := by
    have := heap_alloc_new ((w.alloc (.cells #[.slice ao zs.length cap, .slice ao' xs.length cap'] 27)).alloc (.cells #[.slice none 0 0, .slice none 0 0] 33)) (.cells #[.slice none 0 0, .slice none 0 0] 33)
    simpa [T2] using this
  have hs0 : (((w.alloc (.cells #[.slice ao zs.length cap, .slice ao' xs.length cap'] 27)).alloc (.cells #[.slice none 0 0, .slice none 0 0] 33)).alloc (.cells #[.slice none 0 0, .slice none 0 0] 33)).heap.size = w.heap.size + 3 := by simp
  have HT32 := hide (to32 zs _ _ (Rd.below h ⟨HB0.out.os, HB0.out.tape, HB0.out.output, HB0.out.size, HB0.out.block⟩) (by omega))
  have HTT := hide (fun W (hW : Below w.heap.size w W) => toTreeL B xs _ W (h'.below hW hB) (by have := hW.size; omega) hn')
  have K0 := hide k0
  have K1 := hide k1
  have K2 := hide k2
  generalize hN : zs.length = n at *
  generalize hM : xs.length = m at *
  have hs9 := And.intro (Nat.le_of_eq hs0) (Nat.le_of_eq hs0.symm)
  clear h h' k0 k1 k2 hs0
  go_enter Tryz.func11, Tryz.ntmps11
  go_wp2_with fail
  generalize ((w.alloc (.cells #[.slice ao n cap, .slice ao' m cap'] 27)).alloc (.cells #[.slice none 0 0, .slice none 0 0] 33)).alloc (.cells #[.slice none 0 0, .slice none 0 0] 33) = w0 at *
  refine HT32.out.mono ?_
  rintro e w1 ⟨rfl, ho, hb1⟩
  have s1 := hb1.size
  have L0 := hide (K0.out.below hb1 (by omega))
  have L1 := hide (K1.out.below hb1 (by omega))
  have L2 := hide (K2.out.below hb1 (by omega))
  have HB1 := hide (HB0.out.trans (hb1.mono (by omega)))
  have HO1 := hide ho
  clear ho hb1 HT32 K0 K1 K2
  have m20 := L2.out.c.1
  have f20 := L2.out.fz 0
  have g1lt := L2.out.lt
  have HBs := hide (HB1.out.setCell (p := ⟨w.heap.size + 1 + 1, 0, none⟩) (by simp; omega) (.slice (some ⟨w0.heap.size, 0, none⟩) n n))
  have M0 := hide (show T2 (w1.setCell ⟨w.heap.size + 1 + 1, 0, none⟩ (.slice (some ⟨w0.heap.size, 0, none⟩) n n)) w.heap.size (.slice ao n cap) (.slice ao' m cap') 27 from (heap_setCell_other _ _ _ _ (by simp; omega)).trans L0.out)
  have M1 := hide (show T2 (w1.setCell ⟨w.heap.size + 1 + 1, 0, none⟩ (.slice (some ⟨w0.heap.size, 0, none⟩) n n)) (w.heap.size + 1) (.slice none 0 0) (.slice none 0 0) 33 from (heap_setCell_other _ _ _ _ (by simp)).trans L1.out)
  have M2 := hide (show T2 (w1.setCell ⟨w.heap.size + 1 + 1, 0, none⟩ (.slice (some ⟨w0.heap.size, 0, none⟩) n n)) (w.heap.size + 1 + 1) (.slice (some ⟨w0.heap.size, 0, none⟩) n n) (.slice none 0 0) 33 from T2.set0 L2.out _)
  have MO := hide (show own32 (w1.setCell ⟨w.heap.size + 1 + 1, 0, none⟩ (.slice (some ⟨w0.heap.size, 0, none⟩) n n)) w0.heap.size (.slice (some ⟨w0.heap.size, 0, none⟩) n n) zs from by
    have h9 := owns_of_block (w' := w1.setCell ⟨w.heap.size + 1 + 1, 0, none⟩ (.slice (some ⟨w0.heap.size, 0, none⟩) n n)) HO1.out (fun k hk => by simp only [Value.ownBlock, Option.some.injEq] at hk; subst hk; exact heap_setCell_other _ _ _ _ (by simp; omega))
    unfold own32; rw [hN]; exact h9)
  have sz2 : (w1.setCell ⟨w.heap.size + 1 + 1, 0, none⟩ (.slice (some ⟨w0.heap.size, 0, none⟩) n n)).heap.size ≤ w1.heap.size ∧ w1.heap.size ≤ (w1.setCell ⟨w.heap.size + 1 + 1, 0, none⟩ (.slice (some ⟨w0.heap.size, 0, none⟩) n n)).heap.size := by simp
  have HTT2 := hide (HTT.out _ HBs.out)
  have c1' := M0.out.c.2
  have c10 := L0.out.c.2
  clear HTT HO1 L1 L2
  go_wp2_with fail
  generalize w1.setCell ⟨w.heap.size + 1 + 1, 0, none⟩ (.slice (some ⟨w0.heap.size, 0, none⟩) n n) = w2 at *
  refine HTT2.out.mono ?_
  rintro e w3 ⟨g', hg', rfl, ho3, hb3⟩
  have s3 := hb3.size
  have N1 := hide (M1.out.below hb3 (by omega))
  have N2 := hide (M2.out.below hb3 (by omega))
  have NO := hide (show own32 w3 w0.heap.size _ zs from owns_below MO.out hb3 (Nat.le_refl _))
  have NI := hide ho3
  have HB3 := hide (HBs.out.trans (hb3.mono (by omega)))
  clear hb3 ho3 HTT2 M0 M1 M2 MO c1' c10 L0 m20 f20
  obtain ⟨n20, n21⟩ := N2.out.c
  obtain ⟨n10, n11⟩ := N1.out.c
  have fn0 := N2.out.fz 1
  have fo0 := N1.out.fz 0
  have fo1 := N1.out.fz 1
  go_wp2
  refine bodyPost_ret (v := .agg #[.slice (some ⟨w0.heap.size, 0, none⟩) n n, .slice (some ⟨g', 0, none⟩) m m]) (by simp [results, Tryz.results11, go_sem, n10, n11]) rfl ?_
  refine ⟨w0.heap.size, g', rfl, ?_, ?_, ((HB3.out.setCell (by simp; omega) _).setCell (by simp) _).setCell (by simp) _⟩
  · refine owns_base (base := w0.heap.size) ?_ (by omega)
    refine owns_of_block NO.out fun k hk => ?_
    simp only [Value.ownBlock, Option.some.injEq] at hk
    subst hk
    rw [heap_setCell_other _ _ _ _ (by simp; omega), heap_setCell_other _ _ _ _ (by simp; omega), heap_setCell_other _ _ _ _ (by simp; omega)]
  · refine owns_base (base := w2.heap.size) ?_ (by omega)
    have h9 := owns_of_block (w' := ((w3.setCell ⟨w.heap.size + 1 + 1, 1, none⟩ (.slice (some ⟨g', 0, none⟩) m m)).setCell ⟨w.heap.size + 1, 0, none⟩ (.slice (some ⟨w0.heap.size, 0, none⟩) n n)).setCell ⟨w.heap.size + 1, 1, none⟩ (.slice (some ⟨g', 0, none⟩) m m)) NI.out (fun k hk => by
      simp only [Value.ownBlock, Option.some.injEq] at hk
      subst hk
      rw [heap_setCell_other _ _ _ _ (by simp; omega), heap_setCell_other _ _ _ _ (by simp; omega), heap_setCell_other _ _ _ _ (by simp; omega)])
    exact h9

set_option maxHeartbeats 1000000 in
set_option maxRecDepth 100000 in
theorem eqPBL (B C : Nat) (zs : List Int) (xs : List It) (v t v' t' : Value) (w : World) (h1 : own32 w B v zs) (h2 : own32 w B v' zs) (h3 : OwI w C t xs) (h4 : OwI w C t' xs) (hn : zs.length ≤ 1048576) (hm : xs.length ≤ 1048576) :
    Calls Tryz.prog 13 #[.agg #[v, t], .agg #[v', t']] w fun e w' => e = .returned (.bool true) ∧ Below w.heap.size w w' := by
  have A0 := hide (((Below.refl w.heap.size w).alloc (Nat.le_refl _) (.cells #[v, t] 33)).alloc (by simp) (.cells #[v', t'] 33))
  have hz : w.heap.size ≤ ((w.alloc (.cells #[v, t] 33)).alloc (.cells #[v', t'] 33)).heap.size := A0.out.size
  have O1 := hide (owns_below h1 A0.out (Nat.le_refl _))
  have O2 := hide (owns_below h2 A0.out (Nat.le_refl _))
  have O3 := hide (show OwI _ C t xs from owns_below h3 A0.out (Nat.le_refl _))
  have O4 := hide (show OwI _ C t' xs from owns_below h4 A0.out (Nat.le_refl _))
  obtain ⟨a1, c1, rfl⟩ := own32_val h1
  obtain ⟨a2, c2, rfl⟩ := own32_val h2
  obtain ⟨a3, c3, rfl⟩ := ownI_val h3
  obtain ⟨a4, c4, rfl⟩ := ownI_val h4
  have K1 := hide (show T2 ((w.alloc (.cells #[.slice a1 zs.length c1, .slice a3 xs.length c3] 33)).alloc (.cells #[.slice a2 zs.length c2, .slice a4 xs.length c4] 33)) w.heap.size (.slice a1 zs.length c1) (.slice a3 xs.length c3) 33 from (Below.heap_alloc _ _ _ (by simp)).trans (heap_alloc_new _ _))
  have K2 := hide (show T2 ((w.alloc (.cells #[.slice a1 zs.length c1, .slice a3 xs.length c3] 33)).alloc (.cells #[.slice a2 zs.length c2, .slice a4 xs.length c4] 33)) (w.heap.size + 1) (.slice a2 zs.length c2) (.slice a4 xs.length c4) 33 from (by have h9 := T2.new (w.alloc (.cells #[.slice a1 zs.length c1, .slice a3 xs.length c3] 33)) (.slice a2 zs.length c2) (.slice a4 xs.length c4) 33; rw [World.size_alloc] at h9; exact h9))
  have E1 := hide (fun w h1 h2 => eq32 zs (.slice a1 zs.length c1) (.slice a2 zs.length c2) w h1 h2 (by omega))
  have E2 := hide (fun B C w h1 h2 hB hC => eqTreeL B C xs (.slice a3 xs.length c3) (.slice a4 xs.length c4) w h1 h2 hB hC hm)
  clear h1 h2 h3 h4
  generalize hN : zs.length = n at *
  generalize hM : xs.length = m at *
  clear hN hM
  go_enter Tryz.func13, Tryz.ntmps13
  go_wp2_with fail
  refine (E1.out _ (Rd.of_owns O1.out) (Rd.of_owns O2.out)).mono ?_
  rintro e w1 ⟨rfl, k, hk⟩
  have B1 := hide (show Below _ _ w1 from hk ▸ below_dn2 w.heap.size _ k)
  have P3 := hide (show OwI w1 C _ xs from owns_of_block O3.out (fun q hq => by rw [hk, World.heap_drewN]))
  have P4 := hide (show OwI w1 C _ xs from owns_of_block O4.out (fun q hq => by rw [hk, World.heap_drewN]))
  have d1 := (T2.c (show T2 w1 _ _ _ _ from (by rw [hk]; unfold T2; rw [World.heap_drewN]; exact K1.out))).2
  have d2 := (T2.c (show T2 w1 _ _ _ _ from (by rw [hk]; unfold T2; rw [World.heap_drewN]; exact K2.out))).2
  clear hk O1 O2 O3 O4 K1 K2
  go_wp2_with fail
  refine (E2.out _ _ _ (OwI.rd P3.out) (OwI.rd P4.out) (Nat.le_refl _) (Nat.le_refl _)).mono ?_
  rintro e w2 ⟨rfl, hb2⟩
  have B2 := hide ((A0.out.trans B1.out).trans (hb2.mono (by have := B1.out.size; omega)))
  clear hb2
  go_wp2
  go_ret
  exact ⟨rfl, B2.out⟩


/-- Rows of different kinds. -/
theorem own_kindP {w w' : World} {B B' e e' size size' n n' : Nat} {v v' : Value} {xs xs' : List Value} (h : w.ownsRow B e size v n xs) (h' : w.ownsRow B' e' size' v' n' xs') (hne : e ≠ e') (hg : w.grownBy w' v'.ownBlock) : w'.ownsRow B e size v n xs := by
  refine owns_of_block h (fun q hq => hg.block q (h.lt q hq).2 (fun eq => ?_))
  rcases h.2 with ⟨rfl, _⟩ | ⟨g, cap, cur, rfl, _, hgb, _⟩
  · simp [Value.ownBlock] at hq
  · simp only [Value.ownBlock, Option.some.injEq] at hq
    subst hq
    rcases h'.2 with ⟨rfl, _⟩ | ⟨g', cap', cur', rfl, _, hgb', _⟩
    · simp [Value.ownBlock] at eq
    · simp only [Value.ownBlock, Option.some.injEq] at eq
      subst eq
      rw [hgb] at hgb'
      simp only [Option.some.injEq] at hgb'
      injection hgb' with _ h2 _
      exact hne h2

set_option maxHeartbeats 1000000 in
set_option maxRecDepth 100000 in
theorem markPBL (base : Nat) (zs : List Int) (xs : List It) (v t : Value) (k0 : Int) (w : World) (h1 : own32 w base v zs) (h3 : OwI w base t xs) (hbs : base ≤ w.heap.size) (hn : zs.length ≤ 1048576) (hm : xs.length ≤ 1048576) (hk0 : 0 ≤ k0) (hk1 : k0 ≤ 1048576) :
    Calls Tryz.prog 14 #[.agg #[v, t], .int .i64 k0] w fun e w' => e = .returned (.int .i64 (k0 + zs.length + 4 * xs.length)) ∧ own32 w' base v (marks .i32 k0 zs.length) ∧ OwI w' base t (mit (k0 + zs.length) xs.length) ∧ Below base w w' ∧ (∀ q, q < w.heap.size → v.ownBlock ≠ some q → t.ownBlock ≠ some q → w'.heap[q]? = w.heap[q]?) := by
  have A0 := hide ((Below.refl base w).alloc hbs (.cells #[v, t] 33))
  have O1 := hide (World.ownsRow.alloc h1 (.cells #[v, t] 33))
  have O3 := hide (show OwI _ base t xs from World.ownsRow.alloc h3 (.cells #[v, t] 33))
  have K0 := hide (T2.new w v t 33)
  have hs0 : w.heap.size < (w.alloc (.cells #[v, t] 33)).heap.size := by simp
  have L1 := hide (fun q hq => h1.lt q hq)
  have L3 := hide (fun q hq => h3.lt q hq)
  have KP := hide (fun q (hq : q < w.heap.size) => (Below.heap_alloc w (.cells #[v, t] 33) q hq))
  have M1 := hide (fun w h => mark32 zs v base zs.length k0 w h (by omega) hk0 (by omega))
  have M2 := hide (fun w h => markTreeL xs t base (k0 + zs.length) w h hm (by omega) (by omega))
  obtain ⟨a1, c1, rfl⟩ := own32_val h1
  obtain ⟨a3, c3, rfl⟩ := ownI_val h3
  clear h1 h3
  generalize hN : zs.length = n at *
  generalize hM : xs.length = m at *
  have HN := hide hN
  clear hN hM
  go_enter Tryz.func14, Tryz.ntmps14
  go_wp2_with fail
  generalize w.alloc (.cells #[.slice a1 n c1, .slice a3 m c3] 33) = w0 at *
  refine (M1.out w0 O1.out).mono ?_
  rintro e w1 ⟨rfl, ho1, hg1⟩
  have B1 := hide (A0.out.grown hg1 (by have := A0.out.size; omega) (fun q hq => (L1.out q hq).1))
  have Q3 := hide (show OwI w1 base _ xs from own_kindP O3.out O1.out (by decide) hg1)
  have Q1 := hide ho1
  have KP1 := hide (fun q (hq : q < w.heap.size) (h1 : (Value.slice a1 n c1).ownBlock ≠ some q) => (hg1.block q (by omega) (fun e => h1 e.symm)).trans (KP.out q hq))
  have sz1 := hg1.size
  have K1 := (hg1.block w.heap.size hs0 (fun e => by have := (L1.out _ e.symm).2; omega)).trans K0.out
  have e1 : w1.cell? ⟨w.heap.size, 1, none⟩ = some (.slice a3 m c3) := by rw [cell_of_row w1 _ 1 _ _ _ K1]; rfl
  clear ho1 hg1 O1 O3 A0 K1 K0
  go_wp2_with fail
  refine (M2.out w1 Q3.out).mono ?_
  rintro e w2 ⟨rfl, ho2, hg2⟩
  have B2 := hide (B1.out.grown hg2 (by have := B1.out.size; omega) (fun q hq => (L3.out q hq).1))
  have Q1' := hide (own_kindP Q1.out Q3.out (by decide) hg2)
  have Q3' := hide ho2
  have KP2 := hide (fun q (hq : q < w.heap.size) (h1 : (Value.slice a1 n c1).ownBlock ≠ some q) (h3 : (Value.slice a3 m c3).ownBlock ≠ some q) => (hg2.block q (by omega) (fun e => h3 e.symm)).trans (KP1.out q hq h1))
  clear ho2 hg2
  go_wp2
  go_ret
  refine ⟨rfl, ?_, Q3'.out, B2.out, KP2.out⟩
  unfold own32; rw [marks_length]; exact Q1'.out
set_option maxHeartbeats 1000000 in
set_option maxRecDepth 100000 in
theorem heldPBL (base : Nat) (n m : Nat) (v t : Value) (k0 : Int) (w : World) (h1 : own32 w base v (marks .i32 k0 n)) (h3 : OwI w base t (mit (k0 + n) m)) (hn : n ≤ 1048576) (hm : m ≤ 1048576) (hk0 : 0 ≤ k0) (hk1 : k0 ≤ 1048576) :
    Calls Tryz.prog 15 #[.agg #[v, t], .int .i64 k0] w fun e w' => e = .returned (.int .i64 (k0 + n + 4 * m)) ∧ Below w.heap.size w w' := by
  have A0 := hide ((Below.refl w.heap.size w).alloc (Nat.le_refl _) (.cells #[v, t] 33))
  have O1 := hide (owns_below h1 A0.out (Nat.le_refl _))
  have O3 := hide (show OwI _ base t _ from owns_below h3 A0.out (Nat.le_refl _))
  have K0 := hide (T2.new w v t 33)
  have M1 := hide (fun w h => held32 v n k0 w h (by omega) hk0 (by omega))
  have M2 := hide (fun B w h hB => heldTreeL B t m (k0 + n) w h hB hm (by omega) (by omega))
  have hz := A0.out.size
  have g1 : ¬ (k0 + (n : Int)) < 0 := by omega
  have g2 : ¬ (k0 + (n : Int) + 4 * (m : Int)) < 0 := by omega
  obtain ⟨a1, c1, rfl⟩ := own32_val h1
  obtain ⟨a3, c3, rfl⟩ := ownI_val h3
  rw [marks_length, mit_length] at *
  clear h1 h3
  go_enter Tryz.func15, Tryz.ntmps15
  go_wp2_with fail
  generalize w.alloc (.cells #[.slice a1 n c1, .slice a3 m c3] 33) = w0 at *
  refine (M1.out w0 (Rd.of_owns O1.out)).mono ?_
  rintro e w1 ⟨rfl, hw1⟩
  have hw2 := hw1.symm
  subst hw2
  have d1 := (T2.c K0.out).2
  go_wp2_with fail
  refine (M2.out _ w0 (OwI.rd O3.out) (Nat.le_refl _)).mono ?_
  rintro e w2 ⟨rfl, hb2⟩
  have B2 := hide (A0.out.trans (hb2.mono hz))
  clear hb2
  go_wp2
  go_ret
  exact ⟨rfl, B2.out⟩
end Go.Proofs.YtbgngikejgihgahGreatDoor
