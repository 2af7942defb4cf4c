import Derived.Test.YtbgngikejgihgafDoorPcT
import Derived.Test.YtbgngikejgihgafDoorTTo
import Derived.Test.YtbgngikejgihgafDoorTEq
import Derived.Test.YtbgngikejgihgafDoorTo32
import Derived.Test.YtbgngikejgihgafDoorEq32
namespace Go.Proofs.YtbgngikejgihgafDoor
open Go Go.RowKit
set_option linter.unusedVariables false

/-- A block of two cells. -/
def T2 (w : World) (b : Nat) (x y : Value) (t : TypeId) : Prop := w.heap[b]? = some (.cells #[x, y] t (0, 0))
theorem T2.c {w : World} {b : Nat} {x y : Value} {t : TypeId} (h : T2 w b x y t) : w.cell? ⟨b, 0, none⟩ = some x ∧ w.cell? ⟨b, 1, none⟩ = some y := by
  refine ⟨?_, ?_⟩ <;> rw [cell_of_row w b _ _ _ _ h] <;> rfl
theorem T2.fz {w : World} {b : Nat} {x y : Value} {t : TypeId} (h : T2 w b x y t) (j : Nat) : w.frozen? ⟨b, j, none⟩ = false := frozen_of_row w b j _ _ h
theorem T2.lt {w : World} {b : Nat} {x y : Value} {t : TypeId} (h : T2 w b x y t) : b < w.heap.size := (Array.getElem?_eq_some_iff.1 h).1
theorem T2.below {B : Nat} {w w' : World} {b : Nat} {x y : Value} {t : TypeId} (h : T2 w b x y t) (hb : Below B w w') (hB : b < B) : T2 w' b x y t := (hb.block b hB).trans h
theorem T2.new (w : World) (x y : Value) (t : TypeId) : T2 (w.alloc (.cells #[x, y] t)) w.heap.size x y t := heap_alloc_new w (.cells #[x, y] t)
theorem T2.set0 {w : World} {b : Nat} {x y : Value} {t : TypeId} (h : T2 w b x y t) (v : Value) : T2 (w.setCell ⟨b, 0, none⟩ v) b v y t := by
  unfold T2 at *; rw [heap_setCell_same w b 0 _ _ _ h]; rfl
theorem own32_at {w : World} {base g cap : Nat} {zs : List Int} (h : own32 w base (.slice (some ⟨g, 0, none⟩) zs.length cap) zs) : At32 w g 0 zs := by
  intro i hi
  have := h.cellAt i (by omega)
  rw [Nat.zero_add, this]
  simp [ints, List.getElem?_eq_getElem hi]
theorem own32_lt {w : World} {base g cap : Nat} {zs : List Int} (h : own32 w base (.slice (some ⟨g, 0, none⟩) zs.length cap) zs) : g < w.heap.size := (h.lt g rfl).2

set_option maxHeartbeats 1000000 in
theorem sz32L (ao : Option Addr) (len cap : Nat) (k : Int) (w : World) (hn : len ≤ maxLen) (hk : 0 ≤ k ∧ k ≤ 1048576) :
    Calls Tryd.prog 46 #[.slice ao len cap, .int .i64 k] w fun e w' => e = .returned (.int .i64 (if k - len < 0 then -1 else k - len)) ∧ w' = w := by
  unfold maxLen at hn
  by_cases h : k - (len : Int) < 0
  · rw [if_pos h]
    go_enter Tryd.func46, Tryd.ntmps46
    go_wp2
    go_ret
    exact ⟨rfl, rfl⟩
  · rw [if_neg h]
    go_enter Tryd.func46, Tryd.ntmps46
    go_wp2
    go_ret
    exact ⟨rfl, rfl⟩

set_option maxHeartbeats 1000000 in
set_option maxRecDepth 100000 in
theorem szPBL (ao ao' : Option Addr) (len cap len' cap' : Nat) (w : World) (hn : len ≤ maxLen) (hn' : len' ≤ maxLen) :
    Calls Tryd.prog 16 #[.agg #[.slice ao len cap, .slice ao' len' cap'], .int .i64 1048576] w fun e w' => e = .returned (.int .i64 (if 1048576 < len + len' then -1 else 1048576 - (len : Int) - (len' : Int))) ∧ Below w.heap.size w w' := by
  have HB0 := hide ((Below.refl w.heap.size w).alloc (Nat.le_refl _) (.cells #[.slice ao len cap, .slice ao' len' cap'] 40))
  have K0 := hide (T2.new w (.slice ao len cap) (.slice ao' len' cap') 40)
  have hs0 : (w.alloc (.cells #[.slice ao len cap, .slice ao' len' cap'] 40)).heap.size = w.heap.size + 1 := by simp
  have HS := hide (fun w => sz32L ao len cap 1048576 w hn (by omega))
  by_cases h1 : 1048576 < len
  · rw [if_pos (by omega)] at HS
    rw [if_pos (by omega)]
    go_enter Tryd.func16, Tryd.ntmps16
    go_wp2_with fail
    generalize w.alloc (.cells #[.slice ao len cap, .slice ao' len' cap'] 40) = w0 at *
    refine (HS.out _).mono ?_
    rintro e wx ⟨rfl, hwx⟩
    subst hwx
    go_wp2
    go_ret
    exact ⟨rfl, HB0.out⟩
  · rw [if_neg (by omega)] at HS
    have HS2 := hide (fun w => szTreeL ao' len' cap' (1048576 - (len : Int)) w hn' (by omega))
    have hnn : ¬ (1048576 - (len : Int)) < 0 := by omega
    by_cases h2 : 1048576 < len + len'
    · rw [if_pos (by omega)] at HS2
      rw [if_pos h2]
      go_enter Tryd.func16, Tryd.ntmps16
      go_wp2_with fail
      generalize w.alloc (.cells #[.slice ao len cap, .slice ao' len' cap'] 40) = w0 at *
      refine (HS.out _).mono ?_
      rintro e wx ⟨rfl, hwx⟩
      subst hwx
      have c1 := K0.out.c.2
      have hl := K0.out.lt
      go_wp2_with fail
      refine (HS2.out _).mono ?_
      rintro e w2 ⟨rfl, hb2⟩
      have HB2 := hide (HB0.out.trans (hb2.mono (by omega)))
      clear hb2
      go_wp2
      go_ret
      exact ⟨rfl, HB2.out⟩
    · rw [if_neg (by omega)] at HS2
      rw [if_neg h2]
      have hn2 : ¬ (1048576 - (len : Int) - (len' : Int)) < 0 := by omega
      go_enter Tryd.func16, Tryd.ntmps16
      go_wp2_with fail
      generalize w.alloc (.cells #[.slice ao len cap, .slice ao' len' cap'] 40) = w0 at *
      refine (HS.out _).mono ?_
      rintro e wx ⟨rfl, hwx⟩
      subst hwx
      have c1 := K0.out.c.2
      have hl := K0.out.lt
      go_wp2_with fail
      refine (HS2.out _).mono ?_
      rintro e w2 ⟨rfl, hb2⟩
      have HB2 := hide (HB0.out.trans (hb2.mono (by omega)))
      clear hb2
      go_wp2
      go_ret
      exact ⟨rfl, HB2.out⟩

set_option maxHeartbeats 1000000 in
set_option maxRecDepth 100000 in
theorem toPBL (B : Nat) (zs : List Int) (xs : List It) (v v' : Value) (w : World) (h : Rd .i32 w v zs) (h' : RdI B w v' xs) (hB : B ≤ w.heap.size) (hn : zs.length ≤ 1048576) (hn' : xs.length ≤ 1048576) :
    Calls Tryd.prog 18 #[.agg #[v, v']] w fun e w' => ∃ g g', e = .returned (.agg #[.slice (some ⟨g, 0, none⟩) zs.length zs.length, .slice (some ⟨g', 0, none⟩) xs.length xs.length]) ∧
      own32 w' w.heap.size (.slice (some ⟨g, 0, none⟩) zs.length zs.length) zs ∧ OwI w' w.heap.size (.slice (some ⟨g', 0, none⟩) xs.length xs.length) xs ∧ Below w.heap.size w w' := by
  obtain ⟨ao, cap, rfl⟩ : ∃ ao cap, v = .slice ao zs.length cap := by
    rcases h with ⟨ao, cap, rfl, rfl⟩ | ⟨b, off, cap, rfl, _⟩
    · exact ⟨_, _, rfl⟩
    · exact ⟨_, _, rfl⟩
  obtain ⟨ao', cap', rfl⟩ := h'.val
  have HB0 := hide ((((Below.refl w.heap.size w).alloc (Nat.le_refl _) (.cells #[.slice ao zs.length cap, .slice ao' xs.length cap'] 40)).alloc (by simp) (.cells #[.slice none 0 0, .slice none 0 0] 45)).alloc (by simp; omega) (.cells #[.slice none 0 0, .slice none 0 0] 45))
  have k0 : T2 (((w.alloc (.cells #[.slice ao zs.length cap, .slice ao' xs.length cap'] 40)).alloc (.cells #[.slice none 0 0, .slice none 0 0] 45)).alloc (.cells #[.slice none 0 0, .slice none 0 0] 45)) w.heap.size (.slice ao zs.length cap) (.slice ao' xs.length cap') 40 := by
    refine (Below.heap_alloc _ _ _ (by simp; omega)).trans ((Below.heap_alloc _ _ _ (by simp)).trans (heap_alloc_new _ _))
  have k1 : T2 (((w.alloc (.cells #[.slice ao zs.length cap, .slice ao' xs.length cap'] 40)).alloc (.cells #[.slice none 0 0, .slice none 0 0] 45)).alloc (.cells #[.slice none 0 0, .slice none 0 0] 45)) (w.heap.size + 1) (.slice none 0 0) (.slice none 0 0) 45 := by
    refine (Below.heap_alloc _ _ _ (by simp)).trans ?_
    have := heap_alloc_new (w.alloc (.cells #[.slice ao zs.length cap, .slice ao' xs.length cap'] 40)) (.cells #[.slice none 0 0, .slice none 0 0] 45)
    simpa using this
  have k2 : T2 (((w.alloc (.cells #[.slice ao zs.length cap, .slice ao' xs.length cap'] 40)).alloc (.cells #[.slice none 0 0, .slice none 0 0] 45)).alloc (.cells #[.slice none 0 0, .slice none 0 0] 45)) (w.heap.size + 1 + 1) (.slice none 0 0) (.slice none 0 0) 45 := by
    have := heap_alloc_new ((w.alloc (.cells #[.slice ao zs.length cap, .slice ao' xs.length cap'] 40)).alloc (.cells #[.slice none 0 0, .slice none 0 0] 45)) (.cells #[.slice none 0 0, .slice none 0 0] 45)
    simpa [T2] using this
  have hs0 : (((w.alloc (.cells #[.slice ao zs.length cap, .slice ao' xs.length cap'] 40)).alloc (.cells #[.slice none 0 0, .slice none 0 0] 45)).alloc (.cells #[.slice none 0 0, .slice none 0 0] 45)).heap.size = w.heap.size + 3 := by simp
  have HT32 := hide (to32 zs _ _ (Rd.below h ⟨HB0.out.os, HB0.out.tape, HB0.out.output, HB0.out.size, HB0.out.block⟩) (by omega))
  have HTT := hide (fun W (hW : Below w.heap.size w W) => toTreeL B xs _ W (h'.below hW hB) (by have := hW.size; omega) hn')
  have K0 := hide k0
  have K1 := hide k1
  have K2 := hide k2
  generalize hN : zs.length = n at *
  generalize hM : xs.length = m at *
  have hs9 := And.intro (Nat.le_of_eq hs0) (Nat.le_of_eq hs0.symm)
  clear h h' k0 k1 k2 hs0
  go_enter Tryd.func18, Tryd.ntmps18
  go_wp2_with fail
  generalize ((w.alloc (.cells #[.slice ao n cap, .slice ao' m cap'] 40)).alloc (.cells #[.slice none 0 0, .slice none 0 0] 45)).alloc (.cells #[.slice none 0 0, .slice none 0 0] 45) = w0 at *
  refine HT32.out.mono ?_
  rintro e w1 ⟨rfl, ho, hb1⟩
  have s1 := hb1.size
  have L0 := hide (K0.out.below hb1 (by omega))
  have L1 := hide (K1.out.below hb1 (by omega))
  have L2 := hide (K2.out.below hb1 (by omega))
  have HB1 := hide (HB0.out.trans (hb1.mono (by omega)))
  have HO1 := hide ho
  clear ho hb1 HT32 K0 K1 K2
  have m20 := L2.out.c.1
  have f20 := L2.out.fz 0
  have g1lt := L2.out.lt
  have HBs := hide (HB1.out.setCell (p := ⟨w.heap.size + 1 + 1, 0, none⟩) (by simp; omega) (.slice (some ⟨w0.heap.size, 0, none⟩) n n))
  have M0 := hide (show T2 (w1.setCell ⟨w.heap.size + 1 + 1, 0, none⟩ (.slice (some ⟨w0.heap.size, 0, none⟩) n n)) w.heap.size (.slice ao n cap) (.slice ao' m cap') 40 from (heap_setCell_other _ _ _ _ (by simp; omega)).trans L0.out)
  have M1 := hide (show T2 (w1.setCell ⟨w.heap.size + 1 + 1, 0, none⟩ (.slice (some ⟨w0.heap.size, 0, none⟩) n n)) (w.heap.size + 1) (.slice none 0 0) (.slice none 0 0) 45 from (heap_setCell_other _ _ _ _ (by simp)).trans L1.out)
  have M2 := hide (show T2 (w1.setCell ⟨w.heap.size + 1 + 1, 0, none⟩ (.slice (some ⟨w0.heap.size, 0, none⟩) n n)) (w.heap.size + 1 + 1) (.slice (some ⟨w0.heap.size, 0, none⟩) n n) (.slice none 0 0) 45 from T2.set0 L2.out _)
  have MO := hide (show own32 (w1.setCell ⟨w.heap.size + 1 + 1, 0, none⟩ (.slice (some ⟨w0.heap.size, 0, none⟩) n n)) w0.heap.size (.slice (some ⟨w0.heap.size, 0, none⟩) n n) zs from by
    have h9 := owns_of_block (w' := w1.setCell ⟨w.heap.size + 1 + 1, 0, none⟩ (.slice (some ⟨w0.heap.size, 0, none⟩) n n)) HO1.out (fun k hk => by simp only [Value.ownBlock, Option.some.injEq] at hk; subst hk; exact heap_setCell_other _ _ _ _ (by simp; omega))
    unfold own32; rw [hN]; exact h9)
  have sz2 : (w1.setCell ⟨w.heap.size + 1 + 1, 0, none⟩ (.slice (some ⟨w0.heap.size, 0, none⟩) n n)).heap.size ≤ w1.heap.size ∧ w1.heap.size ≤ (w1.setCell ⟨w.heap.size + 1 + 1, 0, none⟩ (.slice (some ⟨w0.heap.size, 0, none⟩) n n)).heap.size := by simp
  have HTT2 := hide (HTT.out _ HBs.out)
  have c1' := M0.out.c.2
  have c10 := L0.out.c.2
  clear HTT HO1 L1 L2
  go_wp2_with fail
  generalize w1.setCell ⟨w.heap.size + 1 + 1, 0, none⟩ (.slice (some ⟨w0.heap.size, 0, none⟩) n n) = w2 at *
  refine HTT2.out.mono ?_
  rintro e w3 ⟨g', hg', rfl, ho3, hb3⟩
  have s3 := hb3.size
  have N1 := hide (M1.out.below hb3 (by omega))
  have N2 := hide (M2.out.below hb3 (by omega))
  have NO := hide (show own32 w3 w0.heap.size _ zs from owns_below MO.out hb3 (Nat.le_refl _))
  have NI := hide ho3
  have HB3 := hide (HBs.out.trans (hb3.mono (by omega)))
  clear hb3 ho3 HTT2 M0 M1 M2 MO c1' c10 L0 m20 f20
  obtain ⟨n20, n21⟩ := N2.out.c
  obtain ⟨n10, n11⟩ := N1.out.c
  have fn0 := N2.out.fz 1
  have fo0 := N1.out.fz 0
  have fo1 := N1.out.fz 1
  go_wp2
  refine bodyPost_ret (v := .agg #[.slice (some ⟨w0.heap.size, 0, none⟩) n n, .slice (some ⟨g', 0, none⟩) m m]) (by simp [results, Tryd.results18, go_sem, n10, n11]) rfl ?_
  refine ⟨w0.heap.size, g', rfl, ?_, ?_, ((HB3.out.setCell (by simp; omega) _).setCell (by simp) _).setCell (by simp) _⟩
  · refine owns_base (base := w0.heap.size) ?_ (by omega)
    refine owns_of_block NO.out fun k hk => ?_
    simp only [Value.ownBlock, Option.some.injEq] at hk
    subst hk
    rw [heap_setCell_other _ _ _ _ (by simp; omega), heap_setCell_other _ _ _ _ (by simp; omega), heap_setCell_other _ _ _ _ (by simp; omega)]
  · refine owns_base (base := w2.heap.size) ?_ (by omega)
    have h9 := owns_of_block (w' := ((w3.setCell ⟨w.heap.size + 1 + 1, 1, none⟩ (.slice (some ⟨g', 0, none⟩) m m)).setCell ⟨w.heap.size + 1, 0, none⟩ (.slice (some ⟨w0.heap.size, 0, none⟩) n n)).setCell ⟨w.heap.size + 1, 1, none⟩ (.slice (some ⟨g', 0, none⟩) m m)) NI.out (fun k hk => by
      simp only [Value.ownBlock, Option.some.injEq] at hk
      subst hk
      rw [heap_setCell_other _ _ _ _ (by simp; omega), heap_setCell_other _ _ _ _ (by simp; omega), heap_setCell_other _ _ _ _ (by simp; omega)])
    exact h9
end Go.Proofs.YtbgngikejgihgafDoor
