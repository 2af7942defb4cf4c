import Derived.Test.YtbgngikejgihgaeDoorTFace
import Derived.Test.YtbgngikejgihgaeDoorTRemN
import Derived.Test.YtbgngikejgihgaeDoorTChk
namespace Go.Proofs.YtbgngikejgihgaeDoor
open Go Go.RowKit
set_option linter.unusedVariables false

set_option maxHeartbeats 2000000 in
set_option maxRecDepth 100000 in
theorem deletePieceOk (B : Nat) (v : Value) (T : AT) (k : Nat) (w : World) (hb : T.bal) (hok : T.ok) (hk : k < T.its) (hr : RdI B w v (T.told 0)) (hB : B ≤ w.heap.size) :
    Calls Tryd.prog 66 #[.agg #[v], .int .i64 k] w fun e w' => ∃ u bs, e = .returned (.tuple #[.pointer u, .nilIface]) ∧ Lies w' w.heap.size (T.rem k) u bs ∧ Below w.heap.size w w' := by
  obtain ⟨ao, cap, rfl⟩ := hr.val
  have bT := hok.bd
  have HB0 := hide ((Below.refl w.heap.size w).alloc (Nat.le_refl _) (.cells #[.slice ao (T.told 0).length cap] 33))
  have hs0 : (w.alloc (.cells #[.slice ao (T.told 0).length cap] 33)).heap.size = w.heap.size + 1 := by simp
  have HK := hide (readOk B _ T _ hb hok (hr.below HB0.out hB) (by omega))
  have HBO := hide (And.intro hb hok)
  have fl0 := Tryd.fld0
  generalize (T.told 0).length = n at *
  clear hr hb hok
  go_enter Tryd.func66, Tryd.ntmps66
  go_wp2_with fail
  generalize w.alloc (.cells #[.slice ao n cap] 33) = w0 at *
  refine HK.out.mono ?_
  rintro e w1 ⟨u, bs, rfl, hT, hnd, hb1⟩
  have s1 := hb1.size
  have B1 := hide (HB0.out.trans (hb1.mono (by omega)))
  have HT1 := hide hT
  have HND := hide hnd
  clear hT hnd hb1 HK HB0
  go_wp2_with fail
  refine (allN T u bs _ w1 HT1.out).mono ?_
  rintro e w2 ⟨rfl, hb2⟩
  have s2 := hb2.size
  have B2 := hide (B1.out.trans (hb2.mono (by omega)))
  have HT2 := hide (HT1.out.below hb2 (Nat.le_refl _))
  have HKB := hide (boundsI k 0 (T.its - 1) 2 w2)
  have hd : decide ((0 : Int) ≤ k ∧ (k : Int) ≤ T.its - 1) = true := by simp; omega
  rw [hd] at HKB
  simp only [errV, if_true] at HKB
  clear hb2 HT1 B1 hd
  unfold cnt
  go_wp2_with fail
  refine HKB.out.mono ?_
  rintro e w3 ⟨rfl, rfl⟩
  go_wp2_with fail
  refine (removeN T k u bs w0.heap.size _ HBO.out.1 HBO.out.2 hk HT2.out HND.out).mono ?_
  rintro e w4 ⟨u4, bs4, rfl, hT4, nd4, sub4, ch4⟩
  have B4 := hide (B2.out.trans (ch4.below (by omega) (fun x hx => by have := (HT2.out.lt x hx).1; omega)))
  have HT4 := hide (hT4.base (base' := w.heap.size) (by omega))
  clear hT4 nd4 sub4 ch4
  go_wp2
  go_ret2
  exact ⟨u4, bs4, rfl, HT4.out, B4.out⟩

set_option maxHeartbeats 2000000 in
set_option maxRecDepth 100000 in
theorem implDeleteOk (B : Nat) (v : Value) (T : AT) (k : Nat) (w : World) (hb : T.bal) (hok : T.ok) (hk : k < T.its) (hr : RdI B w v (T.told 0)) (hB : B ≤ w.heap.size) :
    Calls Tryd.prog 33 #[.agg #[v], .int .i64 k] w fun e w' => ∃ v1, e = .returned (.tuple #[.agg #[v1], .int .i64 0]) ∧ OwI w' w.heap.size v1 ((T.rem k).told 0) ∧ Below w.heap.size w w' := by
  obtain ⟨ao, cap, rfl⟩ := hr.val
  have HB0 := hide (((Below.refl w.heap.size w).alloc (Nat.le_refl _) (.cells #[.slice ao (T.told 0).length cap] 33)).alloc (by simp) (.cells #[.slice none 0 0] 33))
  have k2 := Boxed.new (w.alloc (.cells #[.slice ao (T.told 0).length cap] 33)) 33 (.slice none 0 0)
  have hs0 : ((w.alloc (.cells #[.slice ao (T.told 0).length cap] 33)).alloc (.cells #[.slice none 0 0] 33)).heap.size = w.heap.size + 2 := by simp
  rw [World.size_alloc] at k2
  have HK := hide (deletePieceOk B _ T k _ hb hok hk (hr.below HB0.out hB) (by omega))
  have HOK := hide (hok.sub (AT.rem_sub T k hk))
  generalize AT.rem T k = J at *
  generalize (T.told 0).length = n at *
  clear hr hb hok
  go_enter Tryd.func33, Tryd.ntmps33
  go_wp2_with fail
  generalize (w.alloc (.cells #[.slice ao n cap] 33)).alloc (.cells #[.slice none 0 0] 33) = w0 at *
  refine HK.out.mono ?_
  rintro e w1 ⟨u, bs, rfl, hT, hb1⟩
  have s1 := hb1.size
  have B1 := hide (HB0.out.trans (hb1.mono (by omega)))
  have j2 : Boxed w1 (w.heap.size + 1) 33 (.slice none 0 0) := (hb1.block _ (by omega)).trans k2
  have HT1 := hide hT
  clear hT hb1 HK HB0 k2
  go_wp2_with fail
  refine (answerOk J u bs _ w1 HT1.out HOK.out).mono ?_
  rintro e w2 ⟨v1, rfl, ho2, hb2⟩
  have s2 := hb2.size
  have m2 : Boxed w2 (w.heap.size + 1) 33 (.slice none 0 0) := (hb2.block _ (by omega)).trans j2
  have B2 := hide ((B1.out.trans (hb2.mono (by omega))))
  obtain ⟨a1, l1, c1, rfl⟩ : ∃ ao ln cap, v1 = .slice ao ln cap := by
    rcases ho2.2 with ⟨rfl, _⟩ | ⟨g, cap, cur, rfl, _⟩
    · exact ⟨_, _, _, rfl⟩
    · exact ⟨_, _, _, rfl⟩
  have d1 := m2.cell
  have f1 := m2.frozen
  have g1 := m2.lt
  have O2 := hide (OwI.base (base' := w.heap.size) ho2 (by omega))
  have O3 := hide (show OwI (w2.setCell ⟨w.heap.size + 1, 0, none⟩ (.slice a1 l1 c1)) w.heap.size (.slice a1 l1 c1) (J.told 0) from O2.out.kept (grownBy_setCell' w2 (w.heap.size + 1) (.slice a1 l1 c1)) (.inr (m2.not_row (by decide) O2.out).symm))
  have B3 := hide (B2.out.setCell (p := ⟨w.heap.size + 1, 0, none⟩) (by simp) (.slice a1 l1 c1))
  have e1 := (m2.set (.slice a1 l1 c1)).cell
  clear ho2 hb2 B1 B2 j2 m2 O2 HT1
  go_wp2
  refine bodyPost_ret (v := .tuple #[.agg #[.slice a1 l1 c1], .int .i64 0]) (by simp [results, Tryd.results33, go_sem, e1]) rfl ⟨_, rfl, O3.out, B3.out⟩
end Go.Proofs.YtbgngikejgihgaeDoor
